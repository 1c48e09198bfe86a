/- A map from texts to numbers; the places of tables by their names. -/
import Derived.Test.YtjoinhljdbljaaaGreatOValHToOValU
import Derived.Test.YtjoinhljdbljaaaGreatOKeyH
set_option maxHeartbeats 4000000
set_option maxRecDepth 20000
namespace Go.Proofs.YtjoinhljdbljaaaGreat.Old
open Go.RowKit Go.Proofs.Tryz
open Go.ChangeMaps (setBlock)
open Go.MapKept
variable {T:List VT} {a w w':World} {bm clock i:Nat} {es:Array MapEntry} {nm:ByteArray}
abbrev EN:=ByteArray×Value
def ES (es:Array MapEntry)(L:List EN):Prop:=es.toList.map (λe=>(e.key,e.val))=L.map λp=>(Value.string p.1,p.2)
theorem ES.len {L:List EN}(h:ES es L):es.size=L.length:=by
 have:=congrArg List.length h;simpa using this
theorem ES.at {es:Array MapEntry}{L:List EN}(h:ES es L)(i:Nat)(e:MapEntry)(he:es.toList[i]?=some e):∃p,L[i]?=some p/\e.key=.string p.1/\e.val=p.2:=by
 have:=congrArg (λl=>l[i]?) h;simp only[M_,he,Option.map_some]at this;cases hp:L[i]? with
 | none=>simp[hp]at this
 | some p=>
  simp only[hp,Option.map_some,j_,Prod.mk.injEq]at this;exact⟨p,rfl,this.1,this.2⟩
theorem iK (k:ByteArray):IsKey .string (.string k):=by simp[IsKey]
def UniqS (L:List EN):Prop:=∀(i j:Nat) (a b:EN),L[i]?=some a->L[j]?=some b->a.1=b.1->i=j
theorem find_noneS {L:List EN}(h:ES es L)(k:ByteArray)(hk:∀p∈L,p.1≠k):Instr.findNow .string (.string k) es.toList 0=some none:=by
 have hkeys:∀x∈es.toList,IsKey .string x.key:=by
  intro x hx;obtain⟨j,hj,rfl⟩:=A_ hx;obtain⟨q,_,h4,_⟩:=h.at j _ (p_ hj);rw[h4];exact iK _
 rcases findNow_spec (iK k) es.toList 0 hkeys with h1|⟨j,e,_,h2,h3⟩
 ·exact h1.1
 ·obtain⟨p,hp,h4,_⟩:=h.at j e h2;rw[h3]at h4;simp only[Value.string.injEq]at h4;exact absurd h4.symm (hk p (v_ hp))
theorem find_someS {L:List EN}(h:ES es L)(hu:UniqS L)(i:Nat)(p:EN)(hp:L[i]?=some p):Instr.findNow .string (.string p.1) es.toList 0=some (some (i,p.2)):=by
 have hkeys:∀x∈es.toList,IsKey .string x.key:=by
  intro x hx;obtain⟨j,hj,rfl⟩:=A_ hx;obtain⟨q,_,h4,_⟩:=h.at j _ (p_ hj);rw[h4];exact iK _
 have hi:i<es.toList.length:=by
  have:=(l_.1 hp).1;have:=h.len;simp;omega
 rcases findNow_spec (iK p.1) es.toList 0 hkeys with h1|⟨j,e,h1,h2,h3⟩
 ·obtain⟨q,hq,h4,_⟩:=h.at i _ (p_ hi);rw[hp]at hq;cases hq;exact absurd h4 (h1.2 _ (m_ hi))
 ·obtain⟨q,hq,h4,h5⟩:=h.at j e h2;rw[h3]at h4;simp only[Value.string.injEq]at h4;have:i=j:=hu i j p q hp hq h4;subst this;rw[hp]at hq;cases hq;rw[h1,h5,U_]
theorem rX {k:Value}{r:Option (Nat×Value)}(h:Instr.findNow .string k es.toList 0=some r):(Instr.findKey 9 k es.toList).run prog w=.ok r w:=by
 simp[Instr.findKey,run_underlying underlying9,h]
theorem zero3 (w:World):(zeroValue 3).run prog w=.ok (.int .i64 0) w:=by kernel_rfl
theorem rac {L:List EN}(hb:w.heap[bm]?=some (.map es clock))(h:ES es L)(k:ByteArray)(hk:∀p∈L,p.1≠k)(c:Bool) :
  (Instr.lookup 153 (.map (some bm)) (.string k) c).run prog w=.ok (if c then .tuple #[.int .i64 0,.bool false]else .int .i64 0) w:=by
 unfold Instr.lookup;simp only[Sem.run_bind,run_underlying underlying153,MapKept.run_getObj_map hb,Result.andThen_ok,Sem.run_pure,MapKept.run_checkKey underlying9 (iK k),rX (find_noneS h k hk),zero3]
theorem rad {L:List EN}(hb:w.heap[bm]?=some (.map es clock))(h:ES es L)(hu:UniqS L)(i:Nat)(p:EN)(hp:L[i]?=some p)(c:Bool) :
  (Instr.lookup 153 (.map (some bm)) (.string p.1) c).run prog w=.ok (if c then .tuple #[p.2,.bool true]else p.2) w:=by
 unfold Instr.lookup;simp only[Sem.run_bind,run_underlying underlying153,MapKept.run_getObj_map hb,Result.andThen_ok,Sem.run_pure,MapKept.run_checkKey underlying9 (iK p.1),rX (find_someS h hu i p hp)]
theorem ES.push {es:Array MapEntry}{L:List EN}(h:ES es L)(k:ByteArray)(v:Value)(c:Nat):ES (es.push ⟨.string k,v,c⟩) (L++[(k,v)]):=by
 unfold ES at *;simp[h]
theorem run_update_noneS {L:List EN}(hb:w.heap[bm]?=some (.map es clock))(h:ES es L)(k:ByteArray)(v:Value)(hk:∀p∈L,p.1≠k) :
  (Instr.mapUpdate 153 (.map (some bm)) (.string k) v).run prog w=.ok () (setBlock w bm (.map (es.push ⟨.string k,v,clock⟩) (clock+1))):=by
 unfold Instr.mapUpdate;simp only[Sem.run_bind,run_underlying underlying153,MapKept.run_getObj_map hb,Result.andThen_ok,MapKept.run_checkKey underlying9 (iK k),rX (find_noneS h k hk),MapKept.run_setObj_map _ hb];rfl
def MI (w:World)(bm:Nat)(L:List EN):Prop:=∃es clock,w.heap[bm]?=some (.map es clock)/\ES es L
theorem MI.b {L:List EN}(h:MI w bm L)(hb:Below w.heap.size w w'):MI w' bm L:=by
 obtain⟨es,clock,h1,h2⟩:=h;exact⟨es,clock,by rw[hb.block bm (agi.1 h1).1];exact h1,h2⟩
def nS (T:List VT):List EN:=T.mapIdx λ(i:Nat) (t:VT)=>(t.name,Value.int .i64 (i:Int))
theorem nameEnts_snoc (T:List VT)(k:Nat)(h:k<T.length):nS (T.take (k+1))=nS (T.take k)++[(T[k].name,Value.int .i64 (k:Int))]:=by
 unfold nS;rw[take_snoc' T k h,List.mapIdx_append];simp[Nat.min_eq_left (Z_ h)]
theorem nG (T:List VT)(i:Nat):(nS T)[i]?=T[i]?.map λt=>(t.name,Value.int .i64 (i:Int)):=by
 unfold nS;rw[List.getElem?_mapIdx]
theorem run_makeS (w:World)(n:Int):(Instr.makeMap 153 (some (.int .i64 n))).run prog w=.ok (.map (some w.heap.size)) (w.alloc (.map #[] 0)):=by
 simp[Instr.makeMap,run_underlying underlying153,asInt];rfl
theorem below_setBlock {b:Nat}(h:Below a.heap.size a w)(hb:a.heap.size<=b)(o:Obj):Below a.heap.size a (setBlock w b o):=((Touch.refl [b] w).setBlock (by simp) o).up h (by simpa using hb)
theorem Na.take {T:List VT}{k:Nat}(hk:k<T.length):((∀i j (hi:i<T.length) (hj:j<T.length),i<j->j<k->T[i].name≠T[j].name)/\∀p∈nS (T.take k),p.1≠T[k].name)->∀i j (hi:i<T.length) (hj:j<T.length),i<j->j<k+1->T[i].name≠T[j].name:=by
 rintro⟨h1,h2⟩ i j hi hj hij hjk;by_cases e:j=k
 ·subst e;exact h2 (T[i].name,.int .i64 (i:Int)) (v_ (i:=i) (by rw[nG];simp[hij,hi]))
 ·exact h1 i j hi hj hij (by omega)
theorem setBlock_same (w:World)(b:Nat)(o:Obj)(hb:b<w.heap.size):(setBlock w b o).heap[b]?=some o:=by
 simp[setBlock,hb]
theorem nK (h:Na T):UniqS (nS T):=by
 intro i j a b ha hb hab;rw[nG]at ha hb;obtain⟨x,hx,rfl⟩:=bc_.1 ha;obtain⟨y,hy,rfl⟩:=bc_.1 hb;obtain⟨hi,rfl⟩:=l_.1 hx;obtain⟨hj,rfl⟩:=l_.1 hy;rcases Nat.lt_trichotomy i j with e|e|e
 ·exact absurd hab (h i j hi hj e)
 ·exact e
 ·exact absurd hab.symm (h j i hj hi e)
def MapPost (T:List VT)(w:World):Ending->World->Prop:=λe w'=>∃m b,e=.returned (.tuple #[.map m,.bool b])/\(b=true↔Na T)/\(Na T->∃bm,m=some bm/\MI w' bm (nS T))/\Below w.heap.size w w'
theorem places_any (w:World)(v:Value)(T:List VT)(h:TI w [] v T)(hl:T.length<=1048576) :
  Calls prog 74 #[v] w (MapPost T w):=by
 obtain⟨ao,cap,rfl,hc,hm,hx⟩:=h.open;have HV:Hid (TI w [] (.slice ao T.length cap) T):=h;clear h hx;have hmm:=run_makeS;go_enter func74,ntmps74;go_wp2
 go_loopw [14] (λj wr=>∃k:Nat,k<=T.length/\j=.int .i64 k/\(∀i j (hi:i<T.length) (hj:j<T.length),i<j->j<k->T[i].name≠T[j].name)/\MI wr w.heap.size (nS (T.take k))/\Below w.heap.size w wr) (λj _=>T.length-(intOf j).toNat)
 case atStart=>exact⟨0,by omega,rfl,λi j _ _ _ h=>by omega,⟨#[],0,heap_alloc_new w _,rfl⟩,(Below.refl _ _).alloc (e_ _) _⟩
 case round=>
  obtain⟨k,hk,rfl,hall,hM,hB⟩:=hrel;clear hmm;have hsz:=hB.size;by_cases hlt:k<T.length
  ·obtain⟨b,off,hao,hcell⟩:=(HV.out.step (su hB)).cells (by omega);subst hao;obtain⟨kv,rv,c0,c1,c2,hkv,hrv⟩:=hcell k hlt;obtain⟨ko,kP,rfl,_,_,g1⟩:=hkv.open;obtain⟨ro,rP,rfl,_,_,g2⟩:=hrv.open;clear g1 g2 hkv hrv hcell;obtain⟨es,clock,hb,he⟩:=hM;have hbl:=(agi.1 hb).1;have hbW:∀o,(wr.alloc o).heap[w.heap.size]?=some (.map es clock):=λo=>by rw[Below.heap_alloc _ _ _ hbl];exact hb
   by_cases hq:∀p∈nS (T.take k),p.1≠T[k].name
   ·have HN:Hid (∀i j (hi:i<T.length) (hj:j<T.length),i<j->j<k+1->T[i].name≠T[j].name):=Na.take hlt ⟨hall,hq⟩;have hrun:∀o,_:=λo=>rac (hbW o) he T[k].name hq true;have hup:∀o,_:=λo=>run_update_noneS (hbW o) he T[k].name (.int .i64 (k:Int)) hq;have HM2:Hid (∀o,MI (setBlock (wr.alloc o) w.heap.size (.map (es.push ⟨.string T[k].name,.int .i64 (k:Int),clock⟩) (clock+1))) w.heap.size (nS (T.take (k+1)))):=λo=>by
     rw[nameEnts_snoc T k hlt];exact⟨_,_,setBlock_same _ _ _ (by simp;omega),he.push _ _ _⟩
    simp only[if_true]at hrun;generalize T[k].kinds.length=kl at *;generalize T[k].rows.length=rl at *;generalize T[k].name=nm at *;clear hq hall hb hbW;go_wp2
    go_roundw
    case rel=>exact⟨k+1,by omega,by go_num,HN.out,HM2.out _,below_setBlock (hB.alloc hsz _) (e_ _) _⟩
    case measure=>simp[intOf];omega
   ·have hq2:∃p∈nS (T.take k),p.1=T[k].name:=by
     refine Classical.byContradiction λh=>hq λp hp e=>h ⟨p,hp,e⟩
    obtain⟨p,hp,hpe⟩:=hq2;obtain⟨i,hi⟩:=List.getElem?_of_mem hp;have hu:UniqS (nS (T.take k)):=nK (λi j hi hj hij=>by
     simp only[List.getElem_take];simp at hi hj;exact hall i j (by omega) (by omega) hij (by omega))
    have HF:Hid (¬Na T):=by
     intro h;have hi2:=hi;rw[nG]at hi2;obtain⟨x,hx,rfl⟩:=bc_.1 hi2;obtain⟨hi3,rfl⟩:=l_.1 hx;simp at hi3;refine h i k (by omega) hlt (by omega) ?_;simpa using hpe
    have hrun:∀o,_:=λo=>rad (hbW o) he hu i p hi true;rw[hpe]at hrun;simp only[if_true]at hrun;generalize T[k].kinds.length=kl at *;generalize T[k].rows.length=rl at *;generalize T[k].name=nm at *;clear hq hall hb hbW hu hp hpe hi;go_wp2
    go_ret2
    exact⟨none,false,rfl,by simp[HF.out],λh=>absurd h HF.out,hB.alloc hsz _⟩
  ·have HT:Hid (Na T):=λi j hi hj hij=>hall i j hi hj hij (by omega);rw[N_ (by omega)]at hM;have HM:Hid (MI wr w.heap.size (nS T)):=hM;clear hall hM;go_wp2
   go_ret2
   exact⟨some w.heap.size,true,rfl,by simp[HT.out],λ_=>⟨_,rfl,HM.out⟩,hB⟩
theorem Hg.iff :Hg T nm↔∃(i:Nat) (t:VT),T[i]?=some t/\t.name=nm:=by
 constructor
 ·rintro⟨i,hi,h⟩;exact⟨i,_,p_ hi,h⟩
 ·rintro⟨i,t,ht,h⟩;obtain⟨hi,rfl⟩:=l_.1 ht;exact⟨i,hi,h⟩
theorem tabK_first (hi:i<T.length)(h:T[i].name=nm)(hn:∀j (hj:j<T.length),j<i->T[j].name≠nm):tY T nm=T[i].kinds:=by
 have e:T.find? (λt=>decide (t.name=nm))=some T[i]:=by
  rw[List.find?_eq_some_iff_getElem];exact⟨by simpa using h,i,hi,rfl,λj hj=>by simpa using hn j (by omega) hj⟩
 simp[tY,e]
theorem sS (w:World)(F:List Nat)(v:Value)(T:List VT)(bm:Nat)(nm:ByteArray)(h:TI w F v T)(hM:MI w bm (nS T))(hN:Na T)(hl:T.length<=1048576) :
  Calls prog 102 #[v,.map (some bm),.string nm] w (PI F (Hg T nm) (tY T nm) w):=by
 obtain⟨ao,cap,rfl,hc,hm,hx⟩:=h.open;clear hx;obtain⟨es,clock,hb,he⟩:=hM;by_cases hq:Hg T nm
 ·obtain⟨i,hi,hnm⟩:=hq;have HQ:Hid (Hg T nm):=⟨i,hi,hnm⟩;have HT:Hid (tY T nm=T[i].kinds):=tabK_first hi hnm λj hj hji e=>hN j i hj hi hji (e.trans hnm.symm);have hrun:=rad hb he (nK hN) i (T[i].name,.int .i64 (i:Int)) (by rw[nG];simp[hi]) true;rw[hnm]at hrun;simp only[if_true]at hrun;obtain⟨b,off,hao,hcell⟩:=h.cells (by omega);subst hao;obtain⟨kv,rv,_,c1,_,hkv,_⟩:=hcell i hi;obtain⟨ko,kP,rfl,_,_,g1⟩:=hkv.open;have HK:Hid (IntsIn w F (.slice ko T[i].kinds.length kP) (tY T nm)):=by rw[HT.out];exact hkv
  clear h hb he hN hnm hcell hkv g1;generalize T[i].kinds.length=kl at *;go_enter func102,ntmps102;go_wp2
  go_ret2
  exact PI.yes HQ.out HK.out (Below.refl _ _)
 ·have HQ:Hid (¬Hg T nm):=hq;have hrun:=rac hb he nm (λp hp e=>hq (by
   obtain⟨i,hi⟩:=List.getElem?_of_mem hp;rw[nG]at hi;obtain⟨x,hx,rfl⟩:=bc_.1 hi;exact Hg.iff.2 ⟨i,x,hx,e⟩)) true
  simp only[if_true]at hrun;clear h hb he hN hq;go_enter func102,ntmps102;go_wp2
  go_ret2
  exact PI.no HQ.out (Below.refl _ _)
end Go.Proofs.YtjoinhljdbljaaaGreat.Old
