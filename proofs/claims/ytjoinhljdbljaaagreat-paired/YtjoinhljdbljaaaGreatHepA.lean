/- A heap of entries as it lies in memory. -/
import Derived.Test.YtjoinhljdbljaaaGreatOrdAToRecA
namespace Go.Proofs.YtjoinhljdbljaaaGreat
open Go.RowKit Go.Proofs.Tryz
variable {F:List Nat} {a b c d v:Value} {bs cap g o ph ps:Nat} {cs cur:Array Value} {ks:List K} {t t':TypeId} {w w':World}
abbrev EV:=Ent×Value
def lT (ks:List K)(a b:EV):Bool:=lN ks a.1 b.1
theorem ltEV_law (ks:List K):Law (lT ks):=((cmpEnt_cmp ks).on Prod.fst).law
def EV.val (x:EV):Value:=eP x.1.rc.no x.2 x.1.run x.1.size
def EV.cells (x:EV):List Value:=[.int .i64 x.1.rc.no,x.2,.int .i64 x.1.run,.int .i64 x.1.size]
def II (cur:Array Value)(cap:Nat)(L:List EV):Prop:=cur.size=cap*4/\L.length<=cap/\cap<=maxLen /\
 ∀i (h:i<L.length),cur[i*4]?=some (.int .i64 L[i].1.rc.no)/\cur[i*4+1]?=some L[i].2/\cur[i*4+2]?=some (.int .i64 L[i].1.run)/\cur[i*4+3]?=some (.int .i64 L[i].1.size)
def Ie (w:World)(g cap:Nat)(L:List EV):Prop:=∃cur,w.heap[g]?=some (.cells cur 263 (0,0))/\II cur cap L
theorem Ie.cell {w:World}{g cap:Nat}{L:List EV}(h:Ie w g cap L)(i:Nat)(hi:i<L.length) :
  w.cell? ⟨g,i*4,none⟩=some (.int .i64 L[i].1.rc.no)/\w.cell? ⟨g,i*4+1,none⟩=some L[i].2/\w.cell? ⟨g,i*4+2,none⟩=some (.int .i64 L[i].1.run)/\w.cell? ⟨g,i*4+3,none⟩=some (.int .i64 L[i].1.size):=by
 obtain⟨cur,hb,_,_,_,hx⟩:=h;obtain⟨h1,h2,h3,h4⟩:=hx i hi;refine⟨?_,?_,?_,?_⟩<;>simp only[World.cell?,hb]<;>assumption
theorem Ie.frozen {w:World}{g cap:Nat}{L:List EV}(h:Ie w g cap L)(o:Nat):w.frozen? ⟨g,o,none⟩=false:=by
 obtain⟨cur,hb,_⟩:=h;simp[World.frozen?,hb]
theorem Ie.touch {L:List EV}(h:Ie w g cap L)(t:Touch F w w')(hg:g∉F):Ie w' g cap L:=by
 obtain⟨cur,hb,hx⟩:=h;exact⟨cur,by rw[t.block g (agi.1 hb).1 hg];exact hb,hx⟩
theorem gJ (cs:Array Value)(o k:Nat)(v:Value):(cs.setIfInBounds o v)[k]?=if o=k then(if o<cs.size then some v else none)else cs[k]?:=by
 rw[E_]
def pF (w:World)(g o:Nat)(a b c d:Value):World:=(((w.setCell ⟨g,o,none⟩ a).setCell ⟨g,o+1,none⟩ b).setCell ⟨g,o+2,none⟩ c).setCell ⟨g,o+3,none⟩ d
theorem put4_heap (h:w.heap[g]?=some (.cells cs t (0,0))) :
  (pF w g o a b c d).heap[g]?=some (.cells ((((cs.setIfInBounds o a).setIfInBounds (o+1) b).setIfInBounds (o+2) c).setIfInBounds (o+3) d) t (0,0)):=
 heap_setCell_same _ _ _ _ _ _ (heap_setCell_same _ _ _ _ _ _ (heap_setCell_same _ _ _ _ _ _ (heap_setCell_same _ _ _ _ _ _ h)))
theorem pU (w:World)(g o:Nat)(a b c d:Value):Touch [g] w (pF w g o a b c d):=
 ((((Touch.refl [g] w).setCell (p:=⟨g,o,none⟩) (by simp) a).setCell (p:=⟨g,o+1,none⟩) (by simp) b).setCell (p:=⟨g,o+2,none⟩) (by simp) c).setCell (p:=⟨g,o+3,none⟩) (by simp) d
theorem II.put {L:List EV}(h:II cur cap L)(i:Nat)(hi:i<L.length)(x:EV) :
  II ((((cur.setIfInBounds (i*4) (.int .i64 x.1.rc.no)).setIfInBounds (i*4+1) x.2).setIfInBounds (i*4+2) (.int .i64 x.1.run)).setIfInBounds (i*4+3) (.int .i64 x.1.size)) cap (L.set i x):=by
 obtain⟨h1,h2,h3,h4⟩:=h;refine⟨by simpa using h1,by simpa using h2,h3,λj hj=>?_⟩;rw[List.length_set]at hj;obtain⟨g1,g2,g3,g4⟩:=h4 j hj;by_cases e:i=j
 ·subst e;simp only[List.getElem_set_self,gJ,az_,h1];refine⟨?_,?_,?_,?_⟩
  ·rw[if_neg (by omega),if_neg (by omega),if_neg (by omega),if_pos trivial,if_pos (by omega)]
  ·rw[if_neg (by omega),if_neg (by omega),if_pos trivial,if_pos (by omega)]
  ·rw[if_neg (by omega),if_pos trivial,if_pos (by omega)]
  ·rw[if_pos trivial,if_pos (by omega)]
 ·rw[ao_ e];simp only[gJ];refine⟨?_,?_,?_,?_⟩
  ·rw[if_neg (by omega),if_neg (by omega),if_neg (by omega),if_neg (by omega)];exact g1
  ·rw[if_neg (by omega),if_neg (by omega),if_neg (by omega),if_neg (by omega)];exact g2
  ·rw[if_neg (by omega),if_neg (by omega),if_neg (by omega),if_neg (by omega)];exact g3
  ·rw[if_neg (by omega),if_neg (by omega),if_neg (by omega),if_neg (by omega)];exact g4
theorem Ie.put {w:World}{g cap:Nat}{L:List EV}(h:Ie w g cap L)(i:Nat)(hi:i<L.length)(x:EV) :
  Ie (pF w g (i*4) (.int .i64 x.1.rc.no) x.2 (.int .i64 x.1.run) (.int .i64 x.1.size)) g cap (L.set i x):=by
 obtain⟨cur,hb,hx⟩:=h;exact⟨_,put4_heap hb,hx.put i hi x⟩
def haD (v:Value)(bs:Nat):Array Value:=#[v,.func (.func 164) #[] #[.pointer (some ⟨bs,0,none⟩)]]
def HeadAt (w:World)(ph:Nat)(v:Value)(bs:Nat):Prop:=w.heap[ph]?=some (.cells (haD v bs) 302 (0,0))
theorem HeadAt.cell {w:World}{ph:Nat}{v:Value}{bs:Nat}(h:HeadAt w ph v bs):w.cell? ⟨ph,0,none⟩=some v/\w.cell? ⟨ph,1,none⟩=some (.func (.func 164) #[] #[.pointer (some ⟨bs,0,none⟩)]):=bF h
theorem HeadAt.frozen {w:World}{ph:Nat}{v:Value}{bs:Nat}(h:HeadAt w ph v bs)(o:Nat):w.frozen? ⟨ph,o,none⟩=false:=by simp[World.frozen?,show w.heap[ph]?=_ from h]
theorem HeadAt.touch (h:HeadAt w ph v bs)(t:Touch F w w')(hg:ph∉F):HeadAt w' ph v bs:=by
 unfold HeadAt at *;rw[t.block ph (agi.1 h).1 hg];exact h
structure TT (w:World)(bs ps:Nat)(ks:List K):Prop where
 s:w.heap[bs]?=some (.cells #[.pointer (some ⟨ps,0,none⟩)] 228 (0,0))
 keys:∃cs f vk,w.heap[ps]?=some (.cells cs 260 f)/\cs[2]?=some vk/\KA w vk ks
theorem TT.keep {w w':World}{bs ps:Nat}{ks:List K}(h:TT w bs ps ks)(h1:KT 228 w w')(h2:KT 260 w w')(h3:KT 73 w w'):TT w' bs ps ks:=by
 obtain⟨cs,f,vk,a,b,c⟩:=h.keys;exact⟨h1 _ _ _ h.s,cs,f,vk,h2 _ _ _ a,b,Sl3.keep c h3⟩
theorem test_any (h:TT w bs ps ks)(a b:EV)(ha:Ro w a.2 a.1.rc.row)(hb:Ro w b.2 b.1.rc.row)(fa:AB ks a.1.rc.row)(fb:AB ks b.1.rc.row) :
  Calls prog 164 #[a.val,b.val,.pointer (some ⟨bs,0,none⟩)] w λe w'=>e=.returned (.bool (lT ks a b))/\Touch [] w w':=by
 obtain⟨cs,f,vk,h1,h2,h3⟩:=h.keys;exact entAhead_any w bs ps a.2 b.2 vk a.1 b.1 ks (by simp[World.cell?,h.s]) (by simp[World.cell?,h1,h2]) ha hb h3 fa fb
structure Ht (w:World)(ph g cap bs ps:Nat)(ks:List K)(L:List EV):Prop where
 head:HeadAt w ph (.slice (some ⟨g,0,none⟩) L.length cap) bs
 items:Ie w g cap L
 ctx:TT w bs ps ks
 rows:∀x∈L,Ro w x.2 x.1.rc.row/\AB ks x.1.rc.row
theorem Ht.ne {L:List EV}(h:Ht w ph g cap bs ps ks L):ph≠g:=by
 obtain⟨cur,hb,_⟩:=h.items;have:=h.head;unfold HeadAt at this;intro e;subst e;rw[hb]at this;simp at this
theorem nO {f:Nat×Nat}(h:w.heap[g]?=some (.cells cs t' f))(hne:t'≠t):NT t w [g]:=by
 intro k hk cs' f' e;simp only[a_,i_,or_false]at hk;subst hk;rw[h]at e;simp only[j_,Obj.cells.injEq]at e;exact hne e.2.1
theorem Ht.quiet {L:List EV}(h:Ht w ph g cap bs ps ks L)(t:Touch [] w w'):Ht w' ph g cap bs ps ks L:=
 ⟨h.head.touch t (by simp),h.items.touch t (by simp),h.ctx.keep (t.tu _) (t.tu _) (t.tu _),λx hx=>⟨(h.rows x hx).1.touch t,(h.rows x hx).2⟩⟩
theorem Ht.turn {L L':List EV}(h:Ht w ph g cap bs ps ks L)(t:Touch [g] w w')(hi:Ie w' g cap L')(hl:L'.length=L.length)(hm:∀x∈L',x∈L):Ht w' ph g cap bs ps ks L':=by
 obtain⟨cur,hb,_⟩:=h.items;refine⟨by rw[hl];exact h.head.touch t (by simp[h.ne]),hi,h.ctx.keep (t.tag (nO hb (by decide))) (t.tag (nO hb (by decide))) (t.tag (nO hb (by decide))),λx hx=>⟨Sl3.keep (h.rows x (hm x hx)).1 (t.tag (nO hb (by decide))),(h.rows x (hm x hx)).2⟩⟩
end Go.Proofs.YtjoinhljdbljaaaGreat
