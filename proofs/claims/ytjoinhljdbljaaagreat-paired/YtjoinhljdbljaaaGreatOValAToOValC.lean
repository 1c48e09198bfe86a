/- Lists in memory that are only read, and what follows. -/
import Derived.Test.YtjoinhljdbljaaaGreatODskAToODskB
import Derived.Test.YtjoinhljdbljaaaGreatOKeyJ
set_option maxHeartbeats 1000000
namespace Go.Proofs.YtjoinhljdbljaaaGreat.Old
open Go.RowKit
open Go.ChangeMaps (setBlock)
variable {F F':List Nat} {P:Prop} {ao ao':Option Addr} {c c' cap k n n' sz:Nat} {l:List Int} {u v:Value} {w w' w1 w2:World}
def Step (F F':List Nat)(w w':World):Prop:=Touch F w w'/\∀k∈F',k∈F\/w.heap.size<=k
theorem Step.of (h:Touch [] w w'):Step F F w w':=⟨h.mono (by simp),λ_ h=>Or.inl h⟩
theorem cell_step {p:Addr}(hs:Step F F' w w')(hF:p.block∉F)(h:w.cell? p=some u):w'.cell? p=some u/\p.block∉F':=by
 have hl:=World.block_lt_of_cell? w p h;have hb:w'.heap[p.block]?=w.heap[p.block]?:=hs.1.block _ hl hF;refine⟨by rw[World.cell?_of_block (w:=w) hb];exact h,λe=>?_⟩;rcases hs.2 _ e with e|e
 ·exact hF e
 ·omega
def LC (w:World)(F:List Nat)(v:Value)(sz n:Nat)(cs:List Value):Prop:=
 ∃ao cap,v=.slice ao n cap/\n<=cap/\cap<=maxLen/\cs.length=n*sz/\(1<=n->∃b off,ao=some ⟨b,off,none⟩/\b∉F/\∀j u,cs[j]?=some u->w.cell? ⟨b,off+j,none⟩=some u)
theorem LC.step {cs:List Value}(h:LC w F v sz n cs)(hsz:1<=sz)(hs:Step F F' w w'):LC w' F' v sz n cs:=by
 obtain⟨ao,cap,rfl,hc,hm,hl,hx⟩:=h;refine⟨ao,cap,rfl,hc,hm,hl,λhn=>?_⟩;obtain⟨b,off,rfl,hb,hx⟩:=hx hn;have h0:0<cs.length:=by rw[hl];exact Nat.mul_pos (by omega) (by omega)
 refine⟨b,off,rfl,(cell_step (p:=⟨b,off+0,none⟩) hs hb (hx 0 _ (p_ h0))).2,λj u hj=>(cell_step (p:=⟨b,off+j,none⟩) hs hb (hx j u hj)).1⟩
def ints (l:List Int):List Value:=l.map (Value.int .i64)
def IntsIn (w:World)(F:List Nat)(v:Value)(l:List Int):Prop:=LC w F v 1 l.length (ints l)
def VI (w:World)(F:List Nat)(v:Value)(l:List V):Prop:=LC w F v 3 l.length (t3s (l.map V.t))
def KI (w:World)(F:List Nat)(v:Value)(l:List K):Prop:=LC w F v 3 l.length (t3s (l.map K.t))
structure VS where
 op:Int
 col:Int
def sums2 (l:List VS):List Value:=l.flatMap λs=>[.int .i64 s.op,.int .i64 s.col]
def SN (w:World)(F:List Nat)(v:Value)(l:List VS):Prop:=LC w F v 2 l.length (sums2 l)
def RowsIn (w:World)(F:List Nat)(v:Value)(rows:List (List V)):Prop:=
 ∃vs:List Value,vs.length=rows.length/\LC w F v 1 rows.length vs/\∀(i:Nat) r u,rows[i]?=some r->vs[i]?=some u->VI w F u r
structure VT where
 name:ByteArray
 kinds:List Int
 rows:List (List V)
abbrev TP:=ByteArray×Value×Value
def tabs3 (l:List TP):List Value:=l.flatMap λp=>[.string p.1,p.2.1,p.2.2]
def TB (w:World)(F:List Nat)(p:TP)(t:VT):Prop:=p.1=t.name/\IntsIn w F p.2.1 t.kinds/\RowsIn w F p.2.2 t.rows
def TI (w:World)(F:List Nat)(v:Value)(T:List VT):Prop:=
 ∃ps:List TP,ps.length=T.length/\LC w F v 3 T.length (tabs3 ps)/\∀(i:Nat) t p,T[i]?=some t->ps[i]?=some p->TB w F p t
structure VN where
 op:Int
 left:Int
 right:Int
 table:ByteArray
 keys:List K
 count:Int
 cols:List Int
 others:List Int
 sums:List VS
abbrev NP:=Value×Value×Value×Value
def nC (n:VN)(p:NP):List Value:=[.int .i64 n.op,.int .i64 n.left,.int .i64 n.right,.string n.table,p.1,.int .i64 n.count,p.2.1,p.2.2.1,p.2.2.2]
def nV (n:VN)(p:NP):Value:=.agg #[.int .i64 n.op,.int .i64 n.left,.int .i64 n.right,.string n.table,p.1,.int .i64 n.count,p.2.1,p.2.2.1,p.2.2.2]
def Nb (w:World)(F:List Nat)(p:NP)(n:VN):Prop:=KI w F p.1 n.keys/\IntsIn w F p.2.1 n.cols/\IntsIn w F p.2.2.1 n.others/\SN w F p.2.2.2 n.sums
def nH (l:List (VN×NP)):List Value:=l.flatMap λx=>nC x.1 x.2
def NI (w:World)(F:List Nat)(v:Value)(N:List VN):Prop:=
 ∃ps:List NP,ps.length=N.length/\LC w F v 9 N.length (nH (N.zip ps))/\∀(i:Nat) n p,N[i]?=some n->ps[i]?=some p->Nb w F p n
theorem IntsIn.step {F F':List Nat}{w w':World}{v:Value}{l:List Int}(h:IntsIn w F v l)(hs:Step F F' w w'):IntsIn w' F' v l:=LC.step h (by omega) hs
theorem VI.step {F F':List Nat}{w w':World}{v:Value}{l:List V}(h:VI w F v l)(hs:Step F F' w w'):VI w' F' v l:=LC.step h (by omega) hs
theorem KI.step {F F':List Nat}{w w':World}{v:Value}{l:List K}(h:KI w F v l)(hs:Step F F' w w'):KI w' F' v l:=LC.step h (by omega) hs
theorem SN.step {F F':List Nat}{w w':World}{v:Value}{l:List VS}(h:SN w F v l)(hs:Step F F' w w'):SN w' F' v l:=LC.step h (by omega) hs
theorem RowsIn.step {F F':List Nat}{w w':World}{v:Value}{l:List (List V)}(h:RowsIn w F v l)(hs:Step F F' w w'):RowsIn w' F' v l:=by
 obtain⟨vs,hl,hv,hx⟩:=h;exact⟨vs,hl,hv.step (by omega) hs,λi r u hr hu=>(hx i r u hr hu).step hs⟩
theorem TB.step {F F':List Nat}{w w':World}{p:TP}{t:VT}(h:TB w F p t)(hs:Step F F' w w'):TB w' F' p t:=⟨h.1,h.2.1.step hs,h.2.2.step hs⟩
theorem TI.step {F F':List Nat}{w w':World}{v:Value}{T:List VT}(h:TI w F v T)(hs:Step F F' w w'):TI w' F' v T:=by
 obtain⟨ps,hl,hv,hx⟩:=h;exact⟨ps,hl,hv.step (by omega) hs,λi r u hr hu=>(hx i r u hr hu).step hs⟩
theorem Nb.step {F F':List Nat}{w w':World}{p:NP}{n:VN}(h:Nb w F p n)(hs:Step F F' w w'):Nb w' F' p n:=⟨h.1.step hs,h.2.1.step hs,h.2.2.1.step hs,h.2.2.2.step hs⟩
theorem NI.step {F F':List Nat}{w w':World}{v:Value}{N:List VN}(h:NI w F v N)(hs:Step F F' w w'):NI w' F' v N:=by
 obtain⟨ps,hl,hv,hx⟩:=h;exact⟨ps,hl,hv.step (by omega) hs,λi r u hr hu=>(hx i r u hr hu).step hs⟩
theorem IntsIn.open (h:IntsIn w F v l):∃ao cap,v=.slice ao l.length cap/\l.length<=cap/\cap<=maxLen/\(1<=l.length->∃b off,ao=some ⟨b,off,none⟩/\∀i (h:i<l.length),w.cell? ⟨b,off+i,none⟩=some (.int .i64 l[i])):=by
 obtain⟨ao,cap,rfl,hc,hm,hl,hx⟩:=h;refine⟨ao,cap,rfl,hc,hm,λhn=>?_⟩;obtain⟨b,off,rfl,_,hx⟩:=hx hn;exact⟨b,off,rfl,λi hi=>hx i _ (by simp[ints,hi])⟩
theorem t3_open {l:List T3}(h:LC w F v 3 l.length (t3s l)):∃ao cap,v=.slice ao l.length cap/\l.length<=cap/\cap<=maxLen/\(1<=l.length->∃b off,ao=some ⟨b,off,none⟩ /\
  ∀i (h:i<l.length),w.cell? ⟨b,off+i*3,none⟩=some l[i].1/\w.cell? ⟨b,off+i*3+1,none⟩=some l[i].2.1/\w.cell? ⟨b,off+i*3+1+1,none⟩=some l[i].2.2):=by
 obtain⟨ao,cap,rfl,hc,hm,hl,hx⟩:=h;refine⟨ao,cap,rfl,hc,hm,λhn=>?_⟩;obtain⟨b,off,rfl,_,hx⟩:=hx hn;refine⟨b,off,rfl,λi hi=>?_⟩;obtain⟨h0,h1,h2⟩:=t3s_get l i hi;exact⟨hx _ _ h0,hx _ _ h1,hx _ _ h2⟩
theorem VI.open {l:List V}(h:VI w F v l):∃ao cap,v=.slice ao l.length cap/\l.length<=cap/\cap<=maxLen/\(1<=l.length->∃b off,ao=some ⟨b,off,none⟩ /\
  ∀i (h:i<l.length),w.cell? ⟨b,off+i*3,none⟩=some (.int .i64 l[i].k)/\w.cell? ⟨b,off+i*3+1,none⟩=some (.int .i64 l[i].n)/\w.cell? ⟨b,off+i*3+1+1,none⟩=some (.string l[i].s)):=by
 have:=t3_open (l:=l.map V.t) (by simpa[VI]using h);simpa[V.t]using this
theorem KI.open {l:List K}(h:KI w F v l):∃ao cap,v=.slice ao l.length cap/\l.length<=cap/\cap<=maxLen/\(1<=l.length->∃b off,ao=some ⟨b,off,none⟩ /\
  ∀i (h:i<l.length),w.cell? ⟨b,off+i*3,none⟩=some (.int .i64 l[i].c)/\w.cell? ⟨b,off+i*3+1,none⟩=some (.bool l[i].d)/\w.cell? ⟨b,off+i*3+1+1,none⟩=some (.bool l[i].l)):=by
 have:=t3_open (l:=l.map K.t) (by simpa[KI]using h);simpa[K.t]using this
theorem sums2_get:∀(l:List VS) (i:Nat) (h:i<l.length),(sums2 l)[i*2]?=some (.int .i64 l[i].op)/\(sums2 l)[i*2+1]?=some (.int .i64 l[i].col)
 | [],_,h=>by simp at h
 | a::l,0,_=>by simp[sums2]
 | a::l,i+1,h=>by
  have:=sums2_get l i (by simpa using h);have e:sums2 (a::l)=.int .i64 a.op::.int .i64 a.col::sums2 l:=by simp[sums2]
  rw[e,show(i+1)*2=i*2+1+1 from by omega];simpa using this
theorem SN.open {l:List VS}(h:SN w F v l):∃ao cap,v=.slice ao l.length cap/\l.length<=cap/\cap<=maxLen/\(1<=l.length->∃b off,ao=some ⟨b,off,none⟩ /\
  ∀i (h:i<l.length),w.cell? ⟨b,off+i*2,none⟩=some (.int .i64 l[i].op)/\w.cell? ⟨b,off+i*2+1,none⟩=some (.int .i64 l[i].col)):=by
 obtain⟨ao,cap,rfl,hc,hm,hl,hx⟩:=h;refine⟨ao,cap,rfl,hc,hm,λhn=>?_⟩;obtain⟨b,off,rfl,_,hx⟩:=hx hn;refine⟨b,off,rfl,λi hi=>?_⟩;obtain⟨h0,h1⟩:=sums2_get l i hi;exact⟨hx _ _ h0,hx _ _ h1⟩
theorem RowsIn.open {l:List (List V)}(h:RowsIn w F v l):∃ao cap,v=.slice ao l.length cap/\l.length<=cap/\cap<=maxLen/\(1<=l.length->∃b off,ao=some ⟨b,off,none⟩ /\
  ∀i (h:i<l.length),∃u,w.cell? ⟨b,off+i,none⟩=some u/\VI w F u l[i]):=by
 obtain⟨vs,hl,⟨ao,cap,rfl,hc,hm,hll,hx⟩,hv⟩:=h;refine⟨ao,cap,rfl,hc,hm,λhn=>?_⟩;obtain⟨b,off,rfl,_,hx⟩:=hx hn;refine⟨b,off,rfl,λi hi=>?_⟩;have hi2:i<vs.length:=by omega
 exact⟨vs[i],hx i _ (p_ hi2),hv i _ _ (p_ hi) (p_ hi2)⟩
theorem tabs3_get (l:List TP)(i:Nat)(h:i<l.length):(tabs3 l)[i*3]?=some (.string l[i].1)/\(tabs3 l)[i*3+1]?=some l[i].2.1/\(tabs3 l)[i*3+1+1]?=some l[i].2.2:=by
 have e:tabs3 l=t3s (l.map λp=>(Value.string p.1,p.2.1,p.2.2)):=by simp[tabs3,t3s,List.flatMap_map]
 rw[e];have:=t3s_get (l.map λp=>(Value.string p.1,p.2.1,p.2.2)) i (by simpa using h);simpa using this
theorem TI.open {l:List VT}(h:TI w F v l):∃ao cap,v=.slice ao l.length cap/\l.length<=cap/\cap<=maxLen/\(1<=l.length->∃b off,ao=some ⟨b,off,none⟩ /\
  ∀i (h:i<l.length),∃kv rv,w.cell? ⟨b,off+i*3,none⟩=some (.string l[i].name)/\w.cell? ⟨b,off+i*3+1,none⟩=some kv/\w.cell? ⟨b,off+i*3+1+1,none⟩=some rv/\IntsIn w F kv l[i].kinds/\RowsIn w F rv l[i].rows):=by
 obtain⟨ps,hl,⟨ao,cap,rfl,hc,hm,hll,hx⟩,hv⟩:=h;refine⟨ao,cap,rfl,hc,hm,λhn=>?_⟩;obtain⟨b,off,rfl,_,hx⟩:=hx hn;refine⟨b,off,rfl,λi hi=>?_⟩;have hi2:i<ps.length:=by omega
 obtain⟨h0,h1,h2⟩:=tabs3_get ps i hi2;obtain⟨hv0,hv1,hv2⟩:=hv i _ _ (p_ hi) (p_ hi2);rw[hv0]at h0;exact⟨_,_,hx _ _ h0,hx _ _ h1,hx _ _ h2,hv1,hv2⟩
theorem nodes9_get:∀(l:List (VN×NP)) (i r:Nat) (h:i<l.length),r<9->(nH l)[i*9+r]?=(nC l[i].1 l[i].2)[r]?
 | [],_,_,h,_=>by simp at h
 | a::l,0,r,_,hr=>by
  have e:nH (a::l)=nC a.1 a.2++nH l:=by simp[nH]
  rw[e,aa_ (by simp[nC];omega)];simp
 | a::l,i+1,r,h,hr=>by
  have:=nodes9_get l i r (by simpa using h) hr;have e:nH (a::l)=nC a.1 a.2++nH l:=by simp[nH]
  rw[e,ae_ (by simp[nC];omega),show(i+1)*9+r-(nC a.1 a.2).length=i*9+r from by simp[nC];omega];simpa using this
theorem NI.open {l:List VN}(h:NI w F v l):∃ao cap,v=.slice ao l.length cap/\l.length<=cap/\cap<=maxLen/\(1<=l.length->∃b off,ao=some ⟨b,off,none⟩ /\
  ∀i (h:i<l.length),∃p:NP,Nb w F p l[i]/\∀r u,(nC l[i] p)[r]?=some u->w.cell? ⟨b,off+i*9+r,none⟩=some u):=by
 obtain⟨ps,hl,⟨ao,cap,rfl,hc,hm,hll,hx⟩,hv⟩:=h;refine⟨ao,cap,rfl,hc,hm,λhn=>?_⟩;obtain⟨b,off,rfl,_,hx⟩:=hx hn;refine⟨b,off,rfl,λi hi=>?_⟩;have hi2:i<ps.length:=by omega
 refine⟨ps[i],hv i _ _ (p_ hi) (p_ hi2),λr u hr=>?_⟩;have hr9:r<9:=by have:=(l_.1 hr).1;simpa[nC]using this
 have:=hx (i*9+r) u (by rw[nodes9_get _ i r (by simp;omega) hr9];simpa using hr);rw[Nat.add_assoc];exact this
open Go.Proofs.Tryz
theorem Below.t (h:Below w.heap.size w w'):Touch [] w w':=⟨h.os,h.tape,h.output,h.size,λk hk _=>h.block k hk⟩
theorem su (h:Below w.heap.size w w'):Step F F w w':=Step.of (Below.t h)
theorem bG (h:Below w.heap.size w w1)(k:Below w1.heap.size w1 w2):Below w.heap.size w w2:=h.trans (k.mono h.size)
def nilB (s:ByteArray):Bool:=s.toList.isEmpty
def gB (v:V):Bool:=
 if v.k=0 then decide (v.n=0) && nilB v.s else if v.k=1 then nilB v.s else if v.k=2 then decide (v.n=0) && decide (v.s.size<=200)else if v.k=3 then(decide (v.n=0) || decide (v.n=1)) && nilB v.s else false
theorem goodValue_any (v:V)(w:World):Calls prog 123 #[.agg #[.int .i64 v.k,.int .i64 v.n,.string v.s]] w λe w'=>e=.returned (.bool (gB v))/\Below w.heap.size w w':=by
 obtain⟨k,n,s⟩:=v;have HG:Hid (gB ⟨k,n,s⟩=if k=0 then decide (n=0) && s.toList.isEmpty else if k=1 then s.toList.isEmpty else if k=2 then decide (n=0) && decide (s.size<=200)else if k=3 then(decide (n=0) || decide (n=1)) && s.toList.isEmpty else false):=rfl;generalize gB ⟨k,n,s⟩=r at *;go_enter func123,ntmps123;go_wp2
 all_goals
  go_ret;refine⟨?_,(Below.refl _ _).alloc (e_ _) _⟩;rw[HG.out];simp_all
 omega
def KN (k:Int):Prop:=k=1\/k=2\/k=3
def KO (l:List Int):Prop:=1<=l.length/\l.length<=12/\∀i (h:i<l.length),KN l[i]
def BP (P:Prop)(w:World):Ending->World->Prop:=λe w'=>∃b,e=.returned (.bool b)/\(b=true↔P)/\Below w.heap.size w w'
theorem BP.yes (h:P)(hb:Below w.heap.size w w'):BP P w (.returned (.bool true)) w':=⟨true,rfl,by simp[h],hb⟩
theorem BP.no (h:¬P)(hb:Below w.heap.size w w'):BP P w (.returned (.bool false)) w':=⟨false,rfl,by simp[h],hb⟩
theorem sJ {α:Type}{P:α->Prop}{l:List α}(hk:k<l.length)(h:∀i (h:i<l.length),i<k->P l[i])(hp:P l[k]):∀i (h:i<l.length),i<k+1->P l[i]:=by
 intro i hi hik;by_cases e:i=k
 ·subst e;exact hp
 ·exact h i hi (by omega)
theorem slice_inj (e:Value.slice ao n c=Value.slice ao' n' c'):ao=ao'/\n=n'/\c=c':=by
 injection e with h1 h2 h3
 exact⟨h1,h2,h3⟩
theorem IntsIn.cells (h:IntsIn w F (.slice ao n cap) l)(hn:1<=l.length):∃b off,ao=some ⟨b,off,none⟩/\∀i (h:i<l.length),w.cell? ⟨b,off+i,none⟩=some (.int .i64 l[i]):=by
 obtain⟨ao',cap',e,_,_,hx⟩:=h.open;obtain⟨rfl,_,_⟩:=slice_inj e;exact hx hn
theorem VI.cells {l:List V}(h:VI w F (.slice ao n cap) l)(hn:1<=l.length):∃b off,ao=some ⟨b,off,none⟩ /\
  ∀i (h:i<l.length),w.cell? ⟨b,off+i*3,none⟩=some (.int .i64 l[i].k)/\w.cell? ⟨b,off+i*3+1,none⟩=some (.int .i64 l[i].n)/\w.cell? ⟨b,off+i*3+1+1,none⟩=some (.string l[i].s):=by
 obtain⟨ao',cap',e,_,_,hx⟩:=h.open;obtain⟨rfl,_,_⟩:=slice_inj e;exact hx hn
theorem KI.cells {l:List K}(h:KI w F (.slice ao n cap) l)(hn:1<=l.length):∃b off,ao=some ⟨b,off,none⟩ /\
  ∀i (h:i<l.length),w.cell? ⟨b,off+i*3,none⟩=some (.int .i64 l[i].c)/\w.cell? ⟨b,off+i*3+1,none⟩=some (.bool l[i].d)/\w.cell? ⟨b,off+i*3+1+1,none⟩=some (.bool l[i].l):=by
 obtain⟨ao',cap',e,_,_,hx⟩:=h.open;obtain⟨rfl,_,_⟩:=slice_inj e;exact hx hn
theorem SN.cells {l:List VS}(h:SN w F (.slice ao n cap) l)(hn:1<=l.length):∃b off,ao=some ⟨b,off,none⟩ /\
  ∀i (h:i<l.length),w.cell? ⟨b,off+i*2,none⟩=some (.int .i64 l[i].op)/\w.cell? ⟨b,off+i*2+1,none⟩=some (.int .i64 l[i].col):=by
 obtain⟨ao',cap',e,_,_,hx⟩:=h.open;obtain⟨rfl,_,_⟩:=slice_inj e;exact hx hn
theorem RowsIn.cells {l:List (List V)}(h:RowsIn w F (.slice ao n cap) l)(hn:1<=l.length):∃b off,ao=some ⟨b,off,none⟩/\∀i (h:i<l.length),∃u,w.cell? ⟨b,off+i,none⟩=some u/\VI w F u l[i]:=by
 obtain⟨ao',cap',e,_,_,hx⟩:=h.open;obtain⟨rfl,_,_⟩:=slice_inj e;exact hx hn
theorem TI.cells {l:List VT}(h:TI w F (.slice ao n cap) l)(hn:1<=l.length):∃b off,ao=some ⟨b,off,none⟩ /\
  ∀i (h:i<l.length),∃kv rv,w.cell? ⟨b,off+i*3,none⟩=some (.string l[i].name)/\w.cell? ⟨b,off+i*3+1,none⟩=some kv/\w.cell? ⟨b,off+i*3+1+1,none⟩=some rv/\IntsIn w F kv l[i].kinds/\RowsIn w F rv l[i].rows:=by
 obtain⟨ao',cap',e,_,_,hx⟩:=h.open;obtain⟨rfl,_,_⟩:=slice_inj e;exact hx hn
theorem NI.cells {l:List VN}(h:NI w F (.slice ao n cap) l)(hn:1<=l.length):∃b off,ao=some ⟨b,off,none⟩ /\
  ∀i (h:i<l.length),∃p:NP,Nb w F p l[i]/\∀r u,(nC l[i] p)[r]?=some u->w.cell? ⟨b,off+i*9+r,none⟩=some u:=by
 obtain⟨ao',cap',e,_,_,hx⟩:=h.open;obtain⟨rfl,_,_⟩:=slice_inj e;exact hx hn
theorem goodKinds_any (w:World)(v:Value)(l:List Int)(h:IntsIn w [] v l)(hl:l.length<=1048576) :
  Calls prog 96 #[v] w (BP (KO l) w):=by
 obtain⟨ao,cap,rfl,hc,hm,hx⟩:=h.open;have HX:Hid _:=hx;clear h hx;go_enter func96,ntmps96;by_cases h1:1<=l.length/\l.length<=12
 ·have hd1:decide ((l.length:Int)<1)=false:=decide_eq_false (by omega);have hd2:decide ((12:Int)<l.length)=false:=decide_eq_false (by omega);go_wp2
  go_loopw [15] (λj wr=>∃k:Nat,k<=l.length/\j=.int .i64 k/\(∀i (h:i<l.length),i<k->KN l[i])/\wr=w) (λj _=>l.length-(intOf j).toNat)
  case atStart=>exact⟨0,by omega,rfl,λi _ h=>by omega,rfl⟩
  case round=>
   obtain⟨k,hk,rfl,hall,hw⟩:=hrel;subst hw;by_cases hlt:k<l.length
   ·obtain⟨b,off,rfl,hcell⟩:=HX.out (by omega);have c0:=hcell k hlt;have Hq:Hid _:=hall;by_cases hq:KN l[k]
    ·have HN:Hid _:=sJ hlt hall hq;unfold KN at hq;generalize l[k]=q at *;clear hcell hall;obtain rfl|rfl|rfl:=hq
     all_goals
      go_wp2
      go_roundw
      case rel=>exact⟨k+1,by omega,by go_num,HN.out,trivial⟩
      case measure=>simp[intOf];omega
    ·have HF:Hid (¬KO l):=λh=>hq (h.2.2 k hlt);unfold KN at hq;generalize l[k]=q at *;have b1:(q != 1)=true:=by rw[bne_iff_ne];omega
     have b2:(q != 2)=true:=by rw[bne_iff_ne];omega
     have b3:(q != 3)=true:=by rw[bne_iff_ne];omega
     clear hcell hall hq;go_wp2
     all_goals
      go_ret;exact BP.no HF.out (Below.refl _ _)
   ·have HT:Hid (KO l):=⟨h1.1,h1.2,λi hi=>hall i hi (by omega)⟩;clear hall;go_wp2;go_ret;exact BP.yes HT.out (Below.refl _ _)
 ·have HF:Hid (¬KO l):=λh=>h1 ⟨h.1,h.2.1⟩;go_wp2
  all_goals first|(exfalso;omega)|skip
  all_goals
   go_ret;exact BP.no HF.out (Below.refl _ _)
def iC (c:Int)(n:Nat):Bool:=decide (0<=c) && decide (c<(n:Int))
theorem iO (c:Int)(ao:Option Addr)(n cap:Nat)(w:World):Calls prog 159 #[.int .i64 c,.slice ao n cap] w λe w'=>e=.returned (.bool (iC c n))/\w'=w:=by
 by_cases h:0<=c
 ·have E:Hid (iC c n=decide (c<(n:Int))):=by simp[Hid,iC,h]
  go_enter func159,ntmps159;go_wp2;go_ret;exact⟨by rw[E.out];rfl,rfl⟩
 ·have E:Hid (iC c n=false):=by simp[Hid,iC,h]
  have hd:decide (0<=c)=false:=by simpa using h
  go_enter func159,ntmps159;go_wp2;go_ret;exact⟨by rw[E.out];rfl,rfl⟩
theorem iL (c:Int)(n:Nat):iC c n=true↔0<=c/\c<(n:Int):=by simp[iC]
def Cc (l:List Int)(many least:Nat):Prop:=(∀i (h:i<l.length),0<=l[i]/\l[i]<(many:Int))/\least<=l.length/\l.length<=4
def cae (l:List K):List Int:=l.map K.c
theorem goodKeys_any (w:World)(v:Value)(l:List K)(ao2:Option Addr)(n cap2:Nat)(h:KI w [] v l)(hl:l.length<=1048576) :
  Calls prog 125 #[v,.slice ao2 n cap2] w (BP (Cc (cae l) n 1) w):=by
 obtain⟨ao,cap,rfl,hc,hm,_⟩:=h.open;have HV:Hid (KI w [] (.slice ao l.length cap) l):=h;clear h;have HI:Hid (∀c ao n cap w,Calls prog 159 #[.int .i64 c,.slice ao n cap] w λe w'=>e=.returned (.bool (iC c n))/\w'=w):=iO;go_enter func125,ntmps125;by_cases h1:1<=l.length/\l.length<=4
 ·have hd1:decide ((l.length:Int)<1)=false:=decide_eq_false (by omega);have hd2:decide ((4:Int)<l.length)=false:=decide_eq_false (by omega);go_wp2
  go_loopw [17] (λj wr=>∃k:Nat,k<=l.length/\j=.int .i64 k/\(∀i (h:i<l.length),i<k->0<=l[i].c/\l[i].c<(n:Int))/\Below w.heap.size w wr) (λj _=>l.length-(intOf j).toNat)
  case atStart=>exact⟨0,by omega,rfl,λi _ h=>by omega,Below.refl _ _⟩
  case round=>
   obtain⟨k,hk,rfl,hall,hB⟩:=hrel;have hsz:=hB.size;by_cases hlt:k<l.length
   ·obtain⟨b,off,hao,hcell⟩:=(HV.out.step (su hB)).cells (by omega);subst hao;obtain⟨c0,c1,c2⟩:=hcell k hlt;by_cases hq:0<=l[k].c/\l[k].c<(n:Int)
    ·have HN:Hid (∀i (h:i<l.length),i<k+1->0<=l[i].c/\l[i].c<(n:Int)):=sJ (P:=λq:K=>0<=q.c/\q.c<(n:Int)) hlt hall hq;have hb:iC l[k].c n=true:=(iL _ _).2 hq;generalize l[k]=q at *;clear hcell hall
     go_wp2_with (go_at_call 159;refine(HI.out _ _ _ _ _).mono ?_;rintro e w' ⟨rfl,rfl⟩)
     go_roundw
     case rel=>exact⟨k+1,by omega,by go_num,HN.out,by repeat (first|exact hB|refine Below.alloc ?_ (by first|exact hsz|(simp;omega)) _|refine Below.setCell ?_ (by simp;omega) _)⟩
     case measure=>simp[intOf];omega
    ·have HF:Hid (¬Cc (cae l) n 1):=λh=>hq (by have:=h.1 k (by simpa[cae]using hlt);simpa[cae]using this);have hb:iC l[k].c n=false:=by rw[<-Bool.not_eq_true,iL];exact hq
     generalize l[k]=q at *;clear hcell hall
     go_wp2_with (go_at_call 159;refine(HI.out _ _ _ _ _).mono ?_;rintro e w' ⟨rfl,rfl⟩)
     go_ret;exact BP.no HF.out (by repeat (first|exact hB|refine Below.alloc ?_ (by first|exact hsz|(simp;omega)) _|refine Below.setCell ?_ (by simp;omega) _))
   ·have HT:Hid (Cc (cae l) n 1):=⟨λi hi=>by have:=hall i (by simpa[cae]using hi) (by simp[cae]at hi;omega);simpa[cae]using this,by simpa[cae]using h1.1,by simpa[cae]using h1.2⟩;clear hall;go_wp2;go_ret;exact BP.yes HT.out hB
 ·have HF:Hid (¬Cc (cae l) n 1):=λh=>h1 (by have:=h.2;simpa[cae]using this);go_wp2
  all_goals first|(exfalso;omega)|skip
  all_goals
   go_ret;exact BP.no HF.out (Below.refl _ _)
end Go.Proofs.YtjoinhljdbljaaaGreat.Old
