/- The walks of small functions, and what follows. -/
import Derived.Test.YtjoinhljdbljaaaGreatRows
import Derived.Test.YtjoinhljdbljaaaGreatHpBToHpD
import Derived.WalkKit
import Derived.WalkSpells
import Derived.WalkLawsBesides
set_option maxHeartbeats 2000000
namespace Go.Proofs.YtjoinhljdbljaaaGreat
open Go.RowKit Go.Proofs.Tryz
variable {B base k:Nat} {bs:List UInt8} {c n:Int} {t:TypeId} {v:Value} {w w':World}
def pI (c n:Int):Int:=(if c<0 then -(c+1)else c)%n
theorem pickN_neg (h:c<0):pI c n=(-(c+1))%n:=by unfold pI;rw[if_pos h]
theorem pickN_pos (h:¬c<0):pI c n=c%n:=by unfold pI;rw[if_neg h]
theorem pick_any (c n:Int)(w:World)(h1: -9223372036854775808<=c)(h2:c<=9223372036854775807)(hn:1<=n)(hn2:n<=1000) :
  Calls prog 40 #[.int .i64 c,.int .i64 n] w λe w'=>e=.returned (.int .i64 (pI c n))/\w'=w:=by
 by_cases hc:c<0
 ·have e:=pickN_neg (n:=n) hc;have e2:(-(c+1)).tmod n=(-(c+1))%n:=Int.tmod_eq_emod_of_nonneg (by omega);have E:Hid (pI c n=(-(c+1)).tmod n):=e.trans e2.symm;clear e e2;go_enter func40,ntmps40;go_wp2;go_ret;exact⟨by rw[E.out];simp[Int.neg_tmod],rfl⟩
 ·have E:Hid (pI c n=c%n):=pickN_pos hc;go_enter func40,ntmps40;go_wp2;go_ret;exact⟨by rw[E.out];rfl,rfl⟩
def V.val (v:V):Value:=.agg #[.int .i64 v.k,.int .i64 v.n,.string v.s]
def V.cs (v:V):List Value:=[.int .i64 v.k,.int .i64 v.n,.string v.s]
def K.val (v:K):Value:=.agg #[.int .i64 v.c,.bool v.d,.bool v.l]
def K.cs (v:K):List Value:=[.int .i64 v.c,.bool v.d,.bool v.l]
theorem whole_any (n:Int)(w:World) :
  Calls prog 61 #[.int .i64 n] w λe w'=>e=.returned (.agg #[.int .i64 1,.int .i64 n,.string ⟨#[]⟩])/\w'=w.alloc (.cells #[.int .i64 1,.int .i64 n,.string ⟨#[]⟩] 85):=by
 go_enter func61,ntmps61;go_wp2;exact bodyPost_ret (v:=.agg #[.int .i64 1,.int .i64 n,.string ⟨#[]⟩]) (by simp[results,results61,go_sem]) rfl ⟨rfl,rfl⟩
def lessV (a b:V):Bool:=decide (a.n<b.n) || Op.bytesLess a.s.toList b.s.toList
def c8 (b:UInt8):Value:=.int .u8 (b.toNat:Int)
structure Fr (B:Nat)(w w':World):Prop where
 below:Below B w w'
 kept:∀k,k<w.heap.size->(∀c f,w.heap[k]?≠some (.cells c 5 f))->w'.heap[k]?=w.heap[k]?
theorem Fr.size {B:Nat}{w w':World}(h:Fr B w w'):w.heap.size<=w'.heap.size:=h.below.size
theorem Fr.refl (B:Nat)(w:World):Fr B w w:=⟨Below.refl _ _,λ_ _ _=>rfl⟩
theorem Fr.trans {B:Nat}{a b c:World}(h:Fr B a b)(k:Fr B b c):Fr B a c:=
 ⟨h.below.trans k.below,λi hi hn=>(k.kept i (s_ hi h.size) (by rw[h.kept i hi hn];exact hn)).trans (h.kept i hi hn)⟩
theorem Fr.alloc {B:Nat}{a w:World}(h:Fr B a w)(hB:B<=w.heap.size)(o:Obj):Fr B a (w.alloc o):=
 h.trans ⟨(Below.refl _ _).alloc hB o,λ_ hi _=>Below.heap_alloc _ _ _ hi⟩
def Tx (w:World)(base:Nat)(v:Value)(bs:List UInt8):Prop:=w.ownsRow base 5 1 v bs.length (bs.map c8)
theorem info5:(prog.info? 5).map (λi=>(i.zero,i.size,i.bytes))=some (some (.int .u8 0),1,1):=by kernel_rfl
theorem Tx.nil (w:World)(base:Nat):Tx w base (.slice none 0 0) []:=World.ownsRow_nil _ _ _ _
theorem Tx.own (h:Tx w base v bs):∀k,v.ownBlock=some k->base<=k:=λk hk=>(World.ownsRow.lt h k hk).1
theorem Tx.alloc {w:World}{base:Nat}{v:Value}{bs:List UInt8}(h:Tx w base v bs)(o:Obj):Tx (w.alloc o) base v bs:=World.ownsRow.alloc h o
theorem Tx.bytes (h:Tx w base v bs):∀k,v.ownBlock=some k->∃c f,w.heap[k]?=some (.cells c 5 f):=by
 intro k hk;rcases h.2 with⟨rfl,_⟩|⟨g,cap,cur,rfl,_,hg,_⟩
 ·simp[Value.ownBlock]at hk
 ·simp[Value.ownBlock]at hk;subst hk;exact⟨_,_,hg⟩
theorem tX {ops:Array Oper}{rest:List Oper}{o:Oper}{a:Act}{Q:Exit->Act->World->Prop}(hgd:o.guard=none)(s x:Operand)
  (ho:o.op=.call { callee:=.builtin .append,args:=#[s,x],argTypes:=#[172,172] }) (base:Nat) (v:Value) (bs:List UInt8) (hs:a.eval s=v) (hown:Tx w base v bs)
  (ad:Addr) (new:List UInt8) (c:Nat) (hx:a.eval x=.slice (some ad) new.length c) (hnews:∀j u,(new.map c8)[j]?=some u->w.cell? (ad.add j)=some u)
  (hlen:bs.length+new.length<=70368744177664) (hbase:base<=w.heap.size)
  (h:∀v' w',Tx w' base v' (bs++new)->Fr base w w'->wpList prog ops Q rest (a.put o.dst v') w'):wpList prog ops Q (o::rest) a w:=by
 obtain⟨i0,hi,hz0,hz1,hz2⟩:=info_parts info5;refine wpList_append_own _ hgd s x 172 ho base 5 i0 (.int .u8 0) 1 1 underlying172 hi hz0 hz1 hz2 rfl (by decide) v _ _ hs hown ad new.length c (new.map c8) hx (by simp) hnews ?_ ?_ ?_ hbase ?_
 ·intro u hu;obtain⟨b,_,rfl⟩:=z_.1 hu;rfl
 ·unfold maxLen;omega
 ·omega
 ·intro v' w' h1 h2 _;refine h v' w' ?_ ⟨(Below.refl _ _).grown h2 hbase λk hk=>hown.own k hk,λk hk hn=>h2.block k hk λe=>?_⟩
  rotate_left
  ·obtain⟨c,f,hc⟩:=hown.bytes k e.symm;exact hn _ _ hc
  simpa[Tx]using h1
theorem take_snoc (s:ByteArray)(k:Nat)(h:k<s.size):s.data.toList.take (k+1)=s.data.toList.take k++[s[k]]:=by
 rw[bd_ (by simpa using h)];rfl
theorem n_ (w:World)(b:UInt8)(n:Int)(hn:n=(b.toNat:Int)):∀j u,([b].map c8)[j]?=some u->(w.alloc (.cells #[.int .u8 n] 5)).cell? (Addr.add ⟨w.heap.size,0,none⟩ j)=some u:=by
 subst hn;exact cell_one_new _ _ _
theorem new_two (w:World)(b c:UInt8):∀j u,([b,c].map c8)[j]?=some u->(w.alloc (.cells #[.int .u8 b.toNat,.int .u8 c.toNat] 5)).cell? (Addr.add ⟨w.heap.size,0,none⟩ j)=some u:=by
 intro j u hj
 match j,hj with
 | 0,hj=>simp at hj;subst hj;simp[Addr.add];rfl
 | 1,hj=>simp at hj;subst hj;simp[Addr.add];rfl
def by8 (u j:Nat):UInt8:=UInt8.ofNat (u/256 ^ (7-j)%256)
def eu (u:Nat):List UInt8:=(List.range 8).map (by8 u)
theorem bY (u j:Nat)(D:Int)(hD:D=((256 ^ (7-j):Nat):Int)):(u:Int)/D%256=((by8 u j).toNat:Int):=by
 subst hD;unfold by8;rw[UInt8.toNat_ofNat'];omega
theorem by8_eq7 (u:Nat):(u:Int)%256=((by8 u 7).toNat:Int):=by
 have:=bY u 7 1 (by decide);simpa using this
theorem wo (base:Nat)(v:Value)(bs:List UInt8)(u:Nat)(w:World)(ho:Tx w base v bs)(hb:base<=w.heap.size)(hl:bs.length<=1000000000000) :
  Calls prog 189 #[v,.int .u64 u] w λe w'=>∃v',e=.returned v'/\Tx w' base v' (bs++eu u)/\Fr base w w':=by
 go_enter func189,ntmps189;go_wp2
 go_loopw [0,5] (λt i wr=>∃k:Nat,k<=8/\i=.int .i64 (56-8*(k:Int))/\Tx wr base t (bs++(List.range k).map (by8 u))/\Fr base w wr) (λ_ i _=>(8+intOf i).toNat)
 case atStart=>exact⟨0,by omega,rfl,by simpa using ho,Fr.refl _ _⟩
 case round=>
  obtain⟨k,hk,rfl,hT,hB⟩:=hrel;have hsz:=hB.size;by_cases hlt:k<8
  ·rcases(show k=0\/k=1\/k=2\/k=3\/k=4\/k=5\/k=6\/k=7 from by omega)with rfl|rfl|rfl|rfl|rfl|rfl|rfl|rfl
   ·go_wp2_with (at_builtin;refine tX rfl (.tmp 10) (.tmp 15) rfl base _ _ rfl (hT.alloc _) _ [by8 u 0] _ rfl (n_ _ _ _ (bY u 0 72057594037927936 (by decide))) (by simp;omega) (by simp;omega) ?_;intro v1 w1 hT1 hB1)
    go_roundw
    case rel=>exact⟨1,by omega,by go_num,by simpa[List.range,List.range.loop]using hT1,(hB.alloc (by omega) _).trans hB1⟩
    case measure=>simp[intOf]
   ·go_wp2_with (at_builtin;refine tX rfl (.tmp 10) (.tmp 15) rfl base _ _ rfl (hT.alloc _) _ [by8 u 1] _ rfl (n_ _ _ _ (bY u 1 281474976710656 (by decide))) (by simp;omega) (by simp;omega) ?_;intro v1 w1 hT1 hB1)
    go_roundw
    case rel=>exact⟨2,by omega,by go_num,by simpa[List.range,List.range.loop]using hT1,(hB.alloc (by omega) _).trans hB1⟩
    case measure=>simp[intOf]
   ·go_wp2_with (at_builtin;refine tX rfl (.tmp 10) (.tmp 15) rfl base _ _ rfl (hT.alloc _) _ [by8 u 2] _ rfl (n_ _ _ _ (bY u 2 1099511627776 (by decide))) (by simp;omega) (by simp;omega) ?_;intro v1 w1 hT1 hB1)
    go_roundw
    case rel=>exact⟨3,by omega,by go_num,by simpa[List.range,List.range.loop]using hT1,(hB.alloc (by omega) _).trans hB1⟩
    case measure=>simp[intOf]
   ·go_wp2_with (at_builtin;refine tX rfl (.tmp 10) (.tmp 15) rfl base _ _ rfl (hT.alloc _) _ [by8 u 3] _ rfl (n_ _ _ _ (bY u 3 4294967296 (by decide))) (by simp;omega) (by simp;omega) ?_;intro v1 w1 hT1 hB1)
    go_roundw
    case rel=>exact⟨4,by omega,by go_num,by simpa[List.range,List.range.loop]using hT1,(hB.alloc (by omega) _).trans hB1⟩
    case measure=>simp[intOf]
   ·go_wp2_with (at_builtin;refine tX rfl (.tmp 10) (.tmp 15) rfl base _ _ rfl (hT.alloc _) _ [by8 u 4] _ rfl (n_ _ _ _ (bY u 4 16777216 (by decide))) (by simp;omega) (by simp;omega) ?_;intro v1 w1 hT1 hB1)
    go_roundw
    case rel=>exact⟨5,by omega,by go_num,by simpa[List.range,List.range.loop]using hT1,(hB.alloc (by omega) _).trans hB1⟩
    case measure=>simp[intOf]
   ·go_wp2_with (at_builtin;refine tX rfl (.tmp 10) (.tmp 15) rfl base _ _ rfl (hT.alloc _) _ [by8 u 5] _ rfl (n_ _ _ _ (bY u 5 65536 (by decide))) (by simp;omega) (by simp;omega) ?_;intro v1 w1 hT1 hB1)
    go_roundw
    case rel=>exact⟨6,by omega,by go_num,by simpa[List.range,List.range.loop]using hT1,(hB.alloc (by omega) _).trans hB1⟩
    case measure=>simp[intOf]
   ·go_wp2_with (at_builtin;refine tX rfl (.tmp 10) (.tmp 15) rfl base _ _ rfl (hT.alloc _) _ [by8 u 6] _ rfl (n_ _ _ _ (bY u 6 256 (by decide))) (by simp;omega) (by simp;omega) ?_;intro v1 w1 hT1 hB1)
    go_roundw
    case rel=>exact⟨7,by omega,by go_num,by simpa[List.range,List.range.loop]using hT1,(hB.alloc (by omega) _).trans hB1⟩
    case measure=>simp[intOf]
   ·go_wp2_with (at_builtin;refine tX rfl (.tmp 10) (.tmp 15) rfl base _ _ rfl (hT.alloc _) _ [by8 u 7] _ rfl (n_ _ _ _ (by8_eq7 u)) (by simp;omega) (by simp;omega) ?_;intro v1 w1 hT1 hB1)
    go_roundw
    case rel=>exact⟨8,by omega,by go_num,by simpa[List.range,List.range.loop]using hT1,(hB.alloc (by omega) _).trans hB1⟩
    case measure=>simp[intOf]
  ·obtain rfl:k=8:=by omega
   go_wp2;go_ret;exact⟨_,rfl,hT,hB⟩
theorem Tx.shape (h:Tx w base v bs)(hne:1<=bs.length) :
  ∃g cap cur,v=.slice (some ⟨g,0,none⟩) bs.length cap/\base<=g/\bs.length<=cap/\cap<=maxLen/\cur.size=cap/\w.heap[g]?=some (.cells cur 5 (0,0))/\∀i (hi:i<bs.length),cur[i]?=some (c8 bs[i]):=by
 obtain⟨h1,h2⟩:=h;rcases h2 with⟨_,h0⟩|⟨g,cap,cur,rfl,hb,hh,hc,hm,hs,ht⟩
 ·omega
 ·refine⟨g,cap,cur,rfl,hb,hc,hm,by simpa using hs,hh,λi hi=>?_⟩;have:=congrArg (λl=>l[i]?) ht;simp only[Nat.mul_one,S_,if_pos hi,Y_,M_,p_ hi,Option.map_some]at this;exact this
theorem Fr.box (h:Fr B w w'){cs:Array Value}{f:Nat×Nat}(hb:w.heap[k]?=some (.cells cs t f))(ht:t≠5):w'.heap[k]?=some (.cells cs t f):=by
 rw[h.kept k (agi.1 hb).1 (λc f' e=>?_),hb];rw[hb]at e;simp only[j_,Obj.cells.injEq]at e;exact ht e.2.1
theorem bD {a b c:Value}(h:w.heap[k]?=some (.cells #[a,b,c] t (0,0))) :
  w.cell? ⟨k,0,none⟩=some a/\w.cell? ⟨k,1,none⟩=some b/\w.cell? ⟨k,2,none⟩=some c:=by
 refine⟨?_,?_,?_⟩<;>simp[World.cell?,h]
theorem nJ (w:World)(o:Obj)(b:UInt8)(n:Int)(hn:n=(b.toNat:Int)):∀j u,([b].map c8)[j]?=some u->((w.alloc o).alloc (.cells #[.int .u8 n] 5)).cell? (Addr.add ⟨w.heap.size+1,0,none⟩ j)=some u:=by
 have:=n_ (w.alloc o) b n hn;simpa using this
theorem foldl_push (ns:List UInt8)(s:ByteArray):(ns.map λb=>(b.toNat:Int)).foldl (λr n=>r.push (UInt8.ofNat n.toNat)) s=⟨s.data++ns.toArray⟩:=by
 induction ns generalizing s with
 | nil=>simp
 | cons b l ih=>
  simp only[List.map_cons,List.foldl_cons,Int.toNat_natCast];rw[ih];have:UInt8.ofNat b.toNat=b:=by simp
  rw[this]
  congr 1
  show s.data.push b++l.toArray=_;apply Array.ext';simp
theorem Tx.drew {w:World}{base:Nat}{v:Value}{bs:List UInt8}(h:Tx w base v bs):Tx w.drew base v bs:=h
theorem tx_string (h:Tx w base v bs):(convert 172 9 v).run prog w=.ok (.string ⟨bs.toArray⟩) w:=by
 by_cases hne:1<=bs.length
 ·obtain⟨g,cap,cur,rfl,hb,hc,hm,hs,hh,hx⟩:=h.shape hne;rw[run_convert_bytes_string w 172 9 5 _ _ _ underlying172 underlying5 underlying9];have hl:(loadCells (⟨g,0,none⟩:Addr) bs.length).run prog w=.ok ((bs.map λb=>(b.toNat:Int)).map (Value.int .u8)).toArray w:=by
   have:=run_loadCells_list (P:=prog) (w:=w) ⟨g,0,none⟩ (bs.map c8) (λj u hu=>by
    obtain⟨hj,rfl⟩:=l_.1 hu;simp only[u_]at hj;have hadd:(⟨g,0,none⟩:Addr).add j=⟨g,j,none⟩:=by unfold Addr.add;split<;>simp_all
    rw[hadd];simp[World.cell?,hh,hx j hj])
   simp only[u_]at this;rw[List.map_map];exact this
  rw[run_bytesToString w ⟨g,0,none⟩ bs.length cap _ hl,foldl_push]
  congr 2
  congr 1
  show #[]++bs.toArray=bs.toArray;simp
 ·have:bs=[]:=by cases bs<;>simp_all
  subst this;rcases h.2 with⟨rfl,_⟩|⟨g,cap,cur,rfl,_⟩
  ·rw[run_convert_bytes_string w 172 9 5 _ _ _ underlying172 underlying5 underlying9];rfl
  ·rw[run_convert_bytes_string w 172 9 5 _ _ _ underlying172 underlying5 underlying9];have hl:(loadCells (⟨g,0,none⟩:Addr) 0).run prog w=.ok (([]:List Int).map (Value.int .u8)).toArray w:=
    run_loadCells_list (P:=prog) (w:=w) ⟨g,0,none⟩ [] (λj u hu=>by simp at hu)
   exact run_bytesToString w ⟨g,0,none⟩ 0 cap _ hl
theorem take_snoc' {α:Type}(l:List α)(k:Nat)(h:k<l.length):l.take (k+1)=l.take k++[l[k]]:=bd_ h
end Go.Proofs.YtjoinhljdbljaaaGreat
