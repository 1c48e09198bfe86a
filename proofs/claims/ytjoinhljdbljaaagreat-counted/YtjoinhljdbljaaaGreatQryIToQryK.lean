/- A table's rows, and what follows. -/
import Derived.Test.YtjoinhljdbljaaaGreatQryH
import Derived.Laws.EntriesVeiled
import Derived.Deep.CutRange
set_option maxHeartbeats 4000000
set_option maxRecDepth 20000
namespace Go.Proofs.YtjoinhljdbljaaaGreat
open Go.RowKit
attribute [local go_sem] Oper.semAt_some
structure TabAt (W:World) (tv:Value) (name:ByteArray) (kv sv:Value):Prop where
 st:∃ g o cap cs,tv=.slice (some ⟨g,o,none⟩) 1 cap /\ W.heap[g]?=some (.cells cs 70 (0,0)) /\ cap <= maxLen /\ 1 <= cap /\ cs[o]?=some (.string name) /\ cs[o+1]?=some kv /\ cs[o+1+1]?=some sv
theorem TabAt.keep {W W':World} {tv:Value} {name:ByteArray} {kv sv:Value} (h:TabAt W tv name kv sv) (k:KeepTag 70 W W'):TabAt W' tv name kv sv:=by
 obtain ⟨g,o,cap,cs,h1,h2,h3⟩:=h.st
 exact ⟨g,o,cap,cs,h1,k _ _ _ h2,h3⟩
theorem named_any (w:World) (bn:Nat) (name:ByteArray) (kv sv:Value) (hk:∃ o n c,kv=.slice o n c) (hs:∃ o n c,sv=.slice o n c) (hb:w.heap[bn]?=some (.cells #[.string name] 9 (0,0))) :
  Calls Tryz.prog 130 #[.agg #[.string name,kv,sv],.pointer (some ⟨bn,0,none⟩)] w fun e w'=>e=.returned (.bool true) /\ Touch [] w w':=by
 obtain ⟨ko,kn,kc,rfl⟩:=hk
 obtain ⟨so,sn,sc,rfl⟩:=hs
 have c0:=boxOne hb
 have hlt:=(Array.getElem?_eq_some_iff.1 hb).1
 clear hb
 go_enter Tryz.func130,Tryz.ntmps130
 go_wp2
 go_ret
 exact ⟨rfl,(Touch.refl [] _).alloc _⟩
theorem indexOne_any (w:World) (tv:Value) (bn:Nat) (name:ByteArray) (kv sv:Value) (hk:∃ o n c,kv=.slice o n c) (hs:∃ o n c,sv=.slice o n c) (hb:w.heap[bn]?=some (.cells #[.string name] 9 (0,0))) (hT:TabAt w tv name kv sv) :
  Calls Tryz.prog 129 #[tv,.func (.func 130) #[] #[.pointer (some ⟨bn,0,none⟩)]] w fun e w'=>e=.returned (.int .i64 0) /\ Touch [] w w':=by
 have hN:=named_any w bn name kv sv hk hs hb
 obtain ⟨g,o,cap,cs,rfl,h2,h3,h4,h5,h6,h7⟩:=hT.st
 obtain ⟨ko,kn,kc,rfl⟩:=hk
 obtain ⟨so,sn,sc,rfl⟩:=hs
 have d0:w.cell? ⟨g,o,none⟩=some (.string name):=by simp only [World.cell?,h2]; exact h5
 have d1:w.cell? ⟨g,o+1,none⟩=some (.slice ko kn kc):=by simp only [World.cell?,h2]; exact h6
 have d2:w.cell? ⟨g,o+1+1,none⟩=some (.slice so sn sc):=by simp only [World.cell?,h2]; exact h7
 unfold maxLen at h3
 clear hT h2 h5 h6 h7 hb
 go_enter Tryz.func129,Tryz.ntmps129
 go_wp2
 refine wp_loop_rounds 1 ?_
 rw [rounds_succ]
 go_wp2_with (go_at_call 130; refine hN.mono ?_; rintro e w1 ⟨rfl,hT1⟩)
 go_ret
 exact ⟨rfl,hT1⟩
theorem values_any (w:World) (so:Option Addr) (sn sc:Nat):Calls Tryz.prog 131 #[.slice so sn sc] w fun e w'=>e=.returned (.func (.func 162) #[] #[.pointer (some ⟨w.heap.size,0,none⟩)]) /\ w'=w.alloc (.cells #[.slice so sn sc] 36):=by
 have hmf:∀ (fn:Fn) (first cap:Array Value) (w:World),(Instr.makeFunc fn first cap).run Tryz.prog w=.ok (.func fn first cap) w:=fun _ _ _ _=>rfl
 go_enter Tryz.func131,Tryz.ntmps131
 go_wp2
 go_ret
 exact ⟨rfl,rfl⟩
theorem checked_any (w:World) (q gf:Nat) (lb:Array Value):Calls Tryz.prog 108 #[.pointer (some ⟨q,0,none⟩),.func (.func gf) #[] lb] w fun e w'=>∃ bl bq,e=.returned (.func (.func 140) #[] #[.pointer (some ⟨bl,0,none⟩),.pointer (some ⟨bq,0,none⟩)]) /\ w'.heap[bq]?=some (.cells #[.pointer (some ⟨q,0,none⟩)] 159 (0,0)) /\ w'.heap[bl]?=some (.cells #[.func (.func gf) #[] lb] 165 (0,0)) /\ Touch [] w w':=by
 have hmf:∀ (fn:Fn) (first cap:Array Value) (w:World),(Instr.makeFunc fn first cap).run Tryz.prog w=.ok (.func fn first cap) w:=fun _ _ _ _=>rfl
 go_enter Tryz.func108,Tryz.ntmps108
 go_wp2
 go_ret
 refine ⟨_,_,rfl,(Below.heap_alloc _ _ _ (by simp)).trans (heap_alloc_new w _),?_,((Touch.refl [] w).alloc _).alloc _⟩
 have:=heap_alloc_new (w.alloc (.cells #[.pointer (some ⟨q,0,none⟩)] 159)) (.cells #[.func (.func gf) #[] lb] 165)
 rw [World.size_alloc] at this
 exact this
theorem sorted_any (w:World) (q gf:Nat) (lb:Array Value) (count:Nat) (ko:Option Addr) (kn kc:Nat):Calls Tryz.prog 106 #[.pointer (some ⟨q,0,none⟩),.func (.func gf) #[] lb,.slice ko kn kc,.int .i64 (count:Int)] w fun e w'=>∃ bq bk bc bl,e=.returned (.func (.func 132) #[] #[.pointer (some ⟨bq,0,none⟩),.pointer (some ⟨bk,0,none⟩),.pointer (some ⟨bc,0,none⟩),.pointer (some ⟨bl,0,none⟩)]) /\ w'.heap[bq]?=some (.cells #[.pointer (some ⟨q,0,none⟩)] 159 (0,0)) /\ w'.heap[bl]?=some (.cells #[.func (.func gf) #[] lb] 165 (0,0)) /\ w'.heap[bk]?=some (.cells #[.slice ko kn kc] 74 (0,0)) /\ w'.heap[bc]?=some (.cells #[.int .i64 (count:Int)] 3 (0,0)) /\ Touch [] w w':=by
 have hmf:∀ (fn:Fn) (first cap:Array Value) (w:World),(Instr.makeFunc fn first cap).run Tryz.prog w=.ok (.func fn first cap) w:=fun _ _ _ _=>rfl
 go_enter Tryz.func106,Tryz.ntmps106
 go_wp2
 go_ret
 refine ⟨_,_,_,_,rfl,?_,?_,?_,?_,((((Touch.refl [] w).alloc _).alloc _).alloc _).alloc _⟩
 ·exact (Below.heap_alloc _ _ _ (by simp only [World.size_alloc]; omega)).trans ((Below.heap_alloc _ _ _ (by simp only [World.size_alloc]; omega)).trans ((Below.heap_alloc _ _ _ (by simp only [World.size_alloc]; omega)).trans (heap_alloc_new w _)))
 ·refine (Below.heap_alloc _ _ _ (by simp only [World.size_alloc]; omega)).trans ((Below.heap_alloc _ _ _ (by simp only [World.size_alloc]; omega)).trans ?_)
  have:=heap_alloc_new (w.alloc (.cells #[.pointer (some ⟨q,0,none⟩)] 159)) (.cells #[.func (.func gf) #[] lb] 165)
  rw [World.size_alloc] at this
  exact this
 ·refine (Below.heap_alloc _ _ _ (by simp only [World.size_alloc]; omega)).trans ?_
  have:=heap_alloc_new ((w.alloc (.cells #[.pointer (some ⟨q,0,none⟩)] 159)).alloc (.cells #[.func (.func gf) #[] lb] 165)) (.cells #[.slice ko kn kc] 74)
  rw [World.size_alloc,World.size_alloc] at this
  exact this
 ·have:=heap_alloc_new (((w.alloc (.cells #[.pointer (some ⟨q,0,none⟩)] 159)).alloc (.cells #[.func (.func gf) #[] lb] 165)).alloc (.cells #[.slice ko kn kc] 74)) (.cells #[.int .i64 (count:Int)] 3)
  rw [World.size_alloc,World.size_alloc,World.size_alloc] at this
  exact this
theorem scanned_any (w:World) (q:Nat) (tv wv:Value) (bx blk:Nat) (fan bud:Int) (name:ByteArray) (kn kc:Nat) (ko:Option Addr) (sv:Value) (vs:List Value) (rows:List (List V)) (hQ:w.heap[q]?=some (.cells #[tv,.int .i64 (blk:Int),.int .i64 fan,.int .i64 bud,.pointer (some ⟨bx,0,none⟩),wv] 162 (0,0))) (hT:TabAt w tv name (.slice ko kn kc) sv) (hL:LAt w sv vs) (hlen:vs.length=rows.length) (hrows:∀ i (_:i < vs.length) (_:i < rows.length),RowAt w vs[i] rows[i]) (hfair:∀ r∈rows,∀ v∈r,Fair v) (hsize:∀ r∈rows,16+sizeR r <= blk /\ r.length <= 1000) (b2:blk <= 4096) (few:rows.length <= 20000) :
  Calls Tryz.prog 105 #[.pointer (some ⟨q,0,none⟩),.string name] w fun e w'=>∃ b,e=.returned (.agg #[.int .i64 (kn:Int),.func (.func 162) #[] #[.pointer (some ⟨b,0,none⟩)]]) /\ w'.heap[b]?=some (.cells #[sv] 36 (0,0)) /\ Touch [] w w':=by
 obtain ⟨so,sc,rfl,hL2⟩:=hL
 have hmf:∀ (fn:Fn) (first cap:Array Value) (w:World),(Instr.makeFunc fn first cap).run Tryz.prog w=.ok (.func fn first cap) w:=fun _ _ _ _=>rfl
 have HIX:Hid (∀ W bn,Touch [] w W -> W.heap[bn]?=some (.cells #[.string name] 9 (0,0)) -> Calls Tryz.prog 129 #[tv,.func (.func 130) #[] #[.pointer (some ⟨bn,0,none⟩)]] W fun e w'=>e=.returned (.int .i64 0) /\ Touch [] W w'):=fun W bn hW hb=>indexOne_any W tv bn name _ _ ⟨_,_,_,rfl⟩ ⟨_,_,_,rfl⟩ hb (hT.keep (hW.tag0 _))
 obtain ⟨g,o,cap,cs,rfl,h2,h3,h4,h5,h6,h7⟩:=hT.st
 unfold maxLen at h3
 have HC:Hid (∀ W,Touch [] w W -> W.cell? ⟨q,0,none⟩=some (.slice (some ⟨g,o,none⟩) 1 cap) /\ W.cell? ⟨g,o,none⟩=some (.string name) /\ W.cell? ⟨g,o+1,none⟩=some (.slice ko kn kc) /\ W.cell? ⟨g,o+1+1,none⟩=some (.slice so vs.length sc)):=fun W hW=>by
  have e1:=hW.tag0 162 _ _ _ hQ
  have e2:=hW.tag0 70 _ _ _ h2
  refine ⟨by simp [World.cell?,e1],?_,?_,?_⟩
  ·simp only [World.cell?,e2]; exact h5
  ·simp only [World.cell?,e2]; exact h6
  ·simp only [World.cell?,e2]; exact h7
 obtain ⟨q0,d0,d1,d2⟩:=HC.out w (Touch.refl _ _)
 have hq:=(Array.getElem?_eq_some_iff.1 hQ).1
 have hg:=(Array.getElem?_eq_some_iff.1 h2).1
 refine callsIn_wide.1 (callsIn_of_wp_marks (n:=0) Tryz.func105 rfl trivial (wpIn_wide.2 ?_))
 simp only [Tryz.ntmps105,List.size_toArray,List.length_cons,List.length_nil,Nat.reduceAdd,Nat.reduceSub,Array.replicate_succ,Array.replicate_zero,List.push_toArray,List.append_toArray,List.nil_append,List.cons_append]
 have HLEN:Hid (vs.length=rows.length):=hlen
 clear hlen
 go_wp2_with (first | (go_at_call 129; refine (HIX.out _ _ (((Touch.refl [] _).alloc _).alloc _) ((Below.heap_alloc _ _ _ (by simp)).trans (heap_alloc_new w _))).mono ?_; rintro e w1 ⟨rfl,hT1⟩; have HT1:Hid (Touch [] w w1):=(((Touch.refl [] _).alloc _).alloc _).trans hT1; obtain ⟨y0,y1,y2,y3⟩:=HC.out w1 HT1.out; have HR1:Hid (w1.heap[w.heap.size+1]?=some (.cells #[.int .i64 0,.nilFunc] 167 (0,0))):=(by have e1:=heap_alloc_new (w.alloc (.cells #[.string name] 9)) (.cells #[.int .i64 0,.nilFunc] 167); rw [World.size_alloc] at e1; exact hT1.tag0 167 _ _ _ e1); clear hT1) | (go_at_call 131; refine (values_any _ so vs.length sc).mono ?_; rintro e w2 ⟨rfl,rfl⟩) | (go_at_call 108; refine (checked_any _ q _ _).mono ?_; rintro e w3 ⟨bl,bq,rfl,z1,z2,hT3⟩))
 have hT3':Touch [] w1 w3:=(((Touch.refl [] w1).alloc _).alloc _).trans hT3
 have tw:Touch [] w w3:=HT1.out.trans hT3'
 have hb3:w3.heap[w1.heap.size+1]?=some (.cells #[.slice so vs.length sc] 36 (0,0)):=by
  have e1:=heap_alloc_new (w1.alloc (.cells #[.string name,.slice ko kn kc,.slice so vs.length sc] 70)) (.cells #[.slice so vs.length sc] 36)
  rw [World.size_alloc] at e1
  exact hT3.tag0 36 _ _ _ e1
 have ht3:w3.heap[w1.heap.size]?=some (.cells #[.string name,.slice ko kn kc,.slice so vs.length sc] 70 (0,0)):=hT3.tag0 70 _ _ _ ((Below.heap_alloc _ _ _ (by simp)).trans (heap_alloc_new w1 _))
 have hr3:=hT3'.tag0 167 _ _ _ HR1.out
 have tV:∀ rec:Loop,Touch [] w3 ((w3.alloc (.deferred (some []))).alloc (.loop rec)):=fun rec=>((Touch.refl [] w3).alloc _).alloc _
 have hctx:ChkCtx w3 bq bl (w1.heap.size+1) q (.slice (some ⟨g,o,none⟩) 1 cap) wv (.slice so vs.length sc) bx blk fan bud vs rows:=⟨z1,tw.tag0 162 _ _ _ hQ,z2,hb3,LAt.keep ⟨so,sc,rfl,hL2⟩ (tw.tag0 83),HLEN.out,fun i a b=>(hrows i a b).touch tw,hfair,hsize,b2,few⟩
 have HSEQ:∀ rec:Loop,SeqC 140 #[.pointer (some ⟨bl,0,none⟩),.pointer (some ⟨bq,0,none⟩)] (0:Nat) (fun s _=>s=vs.length) (fun i v W i'=>(vs[i]?=some v /\ i'=i+1) /\ ∃ h:i < rows.length,RowAt W v rows[i]) (fun _ _=>False) (fun _=>OwnN (w3.heap.size+2)) (fun _=>Guard ChkT (w3.heap.size+2)) ((w3.alloc (.deferred (some []))).alloc (.loop rec)):=fun rec=>by
  have h1:=checked_seq ((w3.alloc (.deferred (some []))).alloc (.loop rec)) bq bl (w1.heap.size+1) q (.slice (some ⟨g,o,none⟩) 1 cap) wv (.slice so vs.length sc) bx blk fan bud vs rows (hctx.keep (fun t _=>(tV rec).tag0 t))
  have e:((w3.alloc (.deferred (some []))).alloc (.loop rec)).heap.size=w3.heap.size+2:=by simp
  rw [e] at h1
  exact h1
 clear y0 y1 y2 y3 q0 d0 d1 d2
 refine range_law (w:=w3) (gf:=140) (lb:=#[.pointer (some ⟨bl,0,none⟩),.pointer (some ⟨bq,0,none⟩)]) rfl (enters_of Tryz.func140 (by kernel_rfl) rfl) rfl HSEQ
  (fun _ A B k ob ho e _ hle=>ho.low e (by omega)) (fun _ _ _ _ h1 h2=>h1.trans h2) (fun _ W r r' e=>Guard.putObj e (by omega))
  (fun _ W=>Touch [] w3 W)
  (fun _ A B hi ho=>by
   obtain ⟨F,o1,o2⟩:=ho
   exact hi.more o1 (fun i hi=>.inr (by have:=o2 i hi; omega))) (fun _ _ _ _ h=>h.elim)
  (fun _ W r r' hi e=>hi.more (Touch.putObj _ _) (fun i hi=>.inr (by rw [List.mem_singleton.1 hi]; omega)))
  (fun _ _ _ W r r' hs e=>⟨hs.1,hs.2.elim fun h k=>⟨h,Sl3.keep k ((OwnS.putObj (T:=[]) (lo:=0) (B:=0) (ob':=.loop r') e (odd_loop r) (Nat.zero_le _) (Nat.zero_le _)).cells 85 (by simp) (by decide))⟩⟩) (fun rec=>tV rec)
  (fun v=>{ tmps:=#[.pointer (some ⟨q,0,none⟩),.string name,undef,.pointer (some ⟨w.heap.size,0,none⟩),.pointer (some ⟨w.heap.size+1,0,none⟩),.int .i64 0,.pointer (some ⟨w1.heap.size,0,none⟩),.func (.func 162) #[] #[.pointer (some ⟨w1.heap.size+1,0,none⟩)],.pointer (some ⟨q,0,none⟩),.pointer (some ⟨q,0,none⟩),.pointer (some ⟨q,0,none⟩),.slice (some ⟨g,o,none⟩) 1 cap,.func (.func 130) #[] #[.pointer (some ⟨w.heap.size,0,none⟩)],.int .i64 0,.pointer (some ⟨q,0,none⟩),.pointer (some ⟨q,0,none⟩),.pointer (some ⟨q,0,none⟩),.slice (some ⟨g,o,none⟩) 1 cap,.int .i64 0,.pointer (some ⟨g,o,none⟩),.agg #[.string name,.slice ko kn kc,.slice so vs.length sc],.pointer (some ⟨w1.heap.size,2,none⟩),.slice so vs.length sc,.func (.func 162) #[] #[.pointer (some ⟨w1.heap.size+1,0,none⟩)],.pointer (some ⟨q,0,none⟩),.func (.func 162) #[] #[.pointer (some ⟨w1.heap.size+1,0,none⟩)],.func (.func 140) #[] #[.pointer (some ⟨bl,0,none⟩),.pointer (some ⟨bq,0,none⟩)],v,undef,undef,undef,undef,undef],defers:=[] }) ?assign ?body ?done
 case assign=>
  intro v W K hK
  gi_wp2
  exact hK
 case body=>
  rintro i v i' W hi hs
  gi_wp2
  exact ⟨fun k ob e _ _=>e,Guard.refl _ _ _,hi⟩
 case done=>
  rintro i W r r' _ hi hl hk
  have t4:Touch [] w3 (W.putObj (w3.heap.size+1) (.loop r')):=hi.more (Touch.putObj _ _) (fun i hi=>.inr (by rw [List.mem_singleton.1 hi]; omega))
  have hk1:(W.putObj (w3.heap.size+1) (.loop r')).heap[w3.heap.size]?=some (.deferred (some [])):=(World.putObj_heap_other (by omega)).trans hk
  generalize W.putObj (w3.heap.size+1) (.loop r')=W2 at *
  clear hi hl hk
  obtain ⟨x0,x1,x2⟩:=box3 (t4.tag0 70 _ _ _ ht3)
  have hr4:=t4.tag0 167 _ _ _ hr3
  obtain ⟨u0,u1⟩:=box2 hr4
  have g0:W2.frozen? ⟨w.heap.size+1,0,none⟩=false:=by simp [World.frozen?,hr4]
  have g1:W2.frozen? ⟨w.heap.size+1,1,none⟩=false:=by simp [World.frozen?,hr4]
  have hW2:(((W2.setCell ⟨w.heap.size+1,0,none⟩ (.int .i64 (kn:Int))).setCell ⟨w.heap.size+1,1,none⟩ (.func (.func 162) #[] #[.pointer (some ⟨w1.heap.size+1,0,none⟩)])).putObj w3.heap.size (.deferred none)).heap[w.heap.size+1]?=some (.cells #[.int .i64 (kn:Int),.func (.func 162) #[] #[.pointer (some ⟨w1.heap.size+1,0,none⟩)]] 167 (0,0)):=by
   rw [World.putObj_heap_other (by have:=(Array.getElem?_eq_some_iff.1 hr3).1; omega),heap_setCell_same _ (w.heap.size+1) 1 _ 167 _ (heap_setCell_same W2 (w.heap.size+1) 0 _ 167 _ hr4)]
   simp
  obtain ⟨v0,v1⟩:=box2 hW2
  have t5:Touch [] w (((W2.setCell ⟨w.heap.size+1,0,none⟩ (.int .i64 (kn:Int))).setCell ⟨w.heap.size+1,1,none⟩ (.func (.func 162) #[] #[.pointer (some ⟨w1.heap.size+1,0,none⟩)])).putObj w3.heap.size (.deferred none)):=by
   refine ((tw.trans t4).more (((Touch.refl [w.heap.size+1] W2).setCell (p:=⟨w.heap.size+1,0,none⟩) (by simp) _).setCell (p:=⟨w.heap.size+1,1,none⟩) (by simp) _) (fun i hi=>.inr (by rw [List.mem_singleton.1 hi]; omega))).more (Touch.putObj _ _) (fun i hi=>.inr (by rw [List.mem_singleton.1 hi]; exact tw.size))
  have hb4:(((W2.setCell ⟨w.heap.size+1,0,none⟩ (.int .i64 (kn:Int))).setCell ⟨w.heap.size+1,1,none⟩ (.func (.func 162) #[] #[.pointer (some ⟨w1.heap.size+1,0,none⟩)])).putObj w3.heap.size (.deferred none)).heap[w1.heap.size+1]?=some (.cells #[.slice so vs.length sc] 36 (0,0)):=by
   have e1:=t4.tag0 36 _ _ _ hb3
   have hlt:=(Array.getElem?_eq_some_iff.1 hb3).1
   rw [World.putObj_heap_other (by omega),(((Touch.refl [w.heap.size+1] W2).setCell (p:=⟨w.heap.size+1,0,none⟩) (by simp) _).setCell (p:=⟨w.heap.size+1,1,none⟩) (by simp) _).block _ (Array.getElem?_eq_some_iff.1 e1).1 (by have:=HT1.out.size; have:=(Array.getElem?_eq_some_iff.1 HR1.out).1; simp; omega)]
   exact e1
  have hkk:((W2.setCell ⟨w.heap.size+1,0,none⟩ (.int .i64 (kn:Int))).setCell ⟨w.heap.size+1,1,none⟩ (.func (.func 162) #[] #[.pointer (some ⟨w1.heap.size+1,0,none⟩)])).heap[w3.heap.size]?=some (.deferred (some [])):=by
   have hlt:=(Array.getElem?_eq_some_iff.1 hr3).1
   rw [(((Touch.refl [w.heap.size+1] W2).setCell (p:=⟨w.heap.size+1,0,none⟩) (by simp) _).setCell (p:=⟨w.heap.size+1,1,none⟩) (by simp) _).block _ (Array.getElem?_eq_some_iff.1 hk1).1 (by simp; omega)]
   exact hk1
  clear hW2
  go_wp2
  refine ⟨by simp,.inl ⟨_,_,rfl,run_takeDeferred hkk,?_⟩⟩
  refine ⟨.agg #[.int .i64 (kn:Int),.func (.func 162) #[] #[.pointer (some ⟨w1.heap.size+1,0,none⟩)]],by simp [results,Tryz.results105,go_sem,v0,v1],w1.heap.size+1,rfl,hb4,t5⟩
end Go.Proofs.YtjoinhljdbljaaaGreat
namespace Go.Proofs.YtjoinhljdbljaaaGreat
open Go.RowKit
def nodeVal (op left right:Int) (name:ByteArray) (kv:Value) (count:Int) (c1 c2 c3:Value):Value:=.agg #[.int .i64 op,.int .i64 left,.int .i64 right,.string name,kv,.int .i64 count,c1,c2,c3]
theorem new2 (w:World) (o1 o2:Obj):((w.alloc o1).alloc o2).heap[w.heap.size+1]?=some o2:=by
 have e1:=heap_alloc_new (w.alloc o1) o2
 rw [World.size_alloc] at e1
 exact e1
theorem resultScan_any (w:World) (q gr:Nat) (tv wv:Value) (bx blk:Nat) (fan bud:Int) (name:ByteArray) (kn kc:Nat) (ko:Option Addr) (sv:Value) (vs:List Value) (rows:List (List V)) (v1 v2:Value) (hQ:w.heap[q]?=some (.cells #[tv,.int .i64 (blk:Int),.int .i64 fan,.int .i64 bud,.pointer (some ⟨bx,0,none⟩),wv] 162 (0,0))) (hT:TabAt w tv name (.slice ko kn kc) sv) (hL:LAt w sv vs) (hlen:vs.length=rows.length) (hrows:∀ i (_:i < vs.length) (_:i < rows.length),RowAt w vs[i] rows[i]) (hfair:∀ r∈rows,∀ v∈r,Fair v) (hsize:∀ r∈rows,16+sizeR r <= blk /\ r.length <= 1000) (b2:blk <= 4096) (few:rows.length <= 20000)
  (hgr:w.heap[gr]?=some (.cells #[.int .i64 0,.nilFunc,v1,v2] 167 (0,0))) :
  Calls Tryz.prog 79 #[.pointer (some ⟨q,0,none⟩),nodeVal 1 0 0 name (.slice none 0 0) 0 (.slice none 0 0) (.slice none 0 0) (.slice none 0 0),.slice (some ⟨gr,0,none⟩) 2 2] w fun e w'=>∃ b,e=.returned (.agg #[.int .i64 (kn:Int),.func (.func 162) #[] #[.pointer (some ⟨b,0,none⟩)]]) /\ w'.heap[b]?=some (.cells #[sv] 36 (0,0)) /\ Touch [] w w':=by
 have HSC:Hid (∀ W,Touch [] w W -> Calls Tryz.prog 105 #[.pointer (some ⟨q,0,none⟩),.string name] W fun e w'=>∃ b,e=.returned (.agg #[.int .i64 (kn:Int),.func (.func 162) #[] #[.pointer (some ⟨b,0,none⟩)]]) /\ w'.heap[b]?=some (.cells #[sv] 36 (0,0)) /\ Touch [] W w'):=fun W hW=>scanned_any W q tv wv bx blk fan bud name kn kc ko sv vs rows (hW.tag0 _ _ _ _ hQ) (hT.keep (hW.tag0 _)) (hL.keep (hW.tag0 _)) hlen (fun i a b=>(hrows i a b).touch hW) hfair hsize b2 few
 have r0:w.cell? ⟨gr,0,none⟩=some (.int .i64 0):=by simp [World.cell?,hgr]
 have r1:w.cell? ⟨gr,1,none⟩=some .nilFunc:=by simp [World.cell?,hgr]
 have hg:=(Array.getElem?_eq_some_iff.1 hgr).1
 unfold nodeVal
 clear hQ hT hL hlen hrows hfair hsize
 go_enter Tryz.func79,Tryz.ntmps79
 go_wp2
 have tA:Touch [] w ((w.alloc (.cells #[.int .i64 1,.int .i64 0,.int .i64 0,.string name,.slice none 0 0,.int .i64 0,.slice none 0 0,.slice none 0 0,.slice none 0 0] 79)).alloc (.cells #[.int .i64 0,.nilFunc] 167)):=((Touch.refl [] w).alloc _).alloc _
 have hB4:((w.alloc (.cells #[.int .i64 1,.int .i64 0,.int .i64 0,.string name,.slice none 0 0,.int .i64 0,.slice none 0 0,.slice none 0 0,.slice none 0 0] 79)).alloc (.cells #[.int .i64 0,.nilFunc] 167)).heap[w.heap.size]?=some (.cells #[.int .i64 1,.int .i64 0,.int .i64 0,.string name,.slice none 0 0,.int .i64 0,.slice none 0 0,.slice none 0 0,.slice none 0 0] 79 (0,0)):=(Below.heap_alloc _ _ _ (by simp)).trans (heap_alloc_new w _)
 have hB6:((w.alloc (.cells #[.int .i64 1,.int .i64 0,.int .i64 0,.string name,.slice none 0 0,.int .i64 0,.slice none 0 0,.slice none 0 0,.slice none 0 0] 79)).alloc (.cells #[.int .i64 0,.nilFunc] 167)).heap[w.heap.size+1]?=some (.cells #[.int .i64 0,.nilFunc] 167 (0,0)):=by
  have e1:=heap_alloc_new (w.alloc (.cells #[.int .i64 1,.int .i64 0,.int .i64 0,.string name,.slice none 0 0,.int .i64 0,.slice none 0 0,.slice none 0 0,.slice none 0 0] 79)) (.cells #[.int .i64 0,.nilFunc] 167)
  rw [World.size_alloc] at e1
  exact e1
 have r0':=cell_touch r0 tA
 have r1':=cell_touch r1 tA
 have hsz:w.heap.size+2 <= ((w.alloc (.cells #[.int .i64 1,.int .i64 0,.int .i64 0,.string name,.slice none 0 0,.int .i64 0,.slice none 0 0,.slice none 0 0,.slice none 0 0] 79)).alloc (.cells #[.int .i64 0,.nilFunc] 167)).heap.size:=by simp
 clear r0 r1
 generalize (w.alloc (.cells #[.int .i64 1,.int .i64 0,.int .i64 0,.string name,.slice none 0 0,.int .i64 0,.slice none 0 0,.slice none 0 0,.slice none 0 0] 79)).alloc (.cells #[.int .i64 0,.nilFunc] 167)=wa at *
 have c1:wa.cell? ⟨w.heap.size,1,none⟩=some (.int .i64 0):=by simp [World.cell?,hB4]
 have c2:wa.cell? ⟨w.heap.size,2,none⟩=some (.int .i64 0):=by simp [World.cell?,hB4]
 have l1:w.heap.size < wa.heap.size:=by omega
 have l2:gr < wa.heap.size:=by omega
 have l3:wa.heap.size≠w.heap.size:=by omega
 have l4:wa.heap.size≠gr:=by omega
 have l5:wa.heap.size+1≠w.heap.size:=by omega
 have l6:wa.heap.size+1≠gr:=by omega
 go_cut [7,8] from 9 (fun a b wx=>∃ B7 B8,a=.pointer (some ⟨B7,0,none⟩) /\ b=.pointer (some ⟨B8,0,none⟩) /\ wx.heap[B7]?=some (.cells #[.int .i64 0,.nilFunc] 167 (0,0)) /\ Touch [] wa wx)
 case first=>
  go_region_held3 (fun w'=>w'.cell? ⟨w.heap.size,1,none⟩=some (.int .i64 0) /\ w'.cell? ⟨w.heap.size,2,none⟩=some (.int .i64 0) /\ w'.cell? ⟨gr,0,none⟩=some (.int .i64 0) /\ w'.cell? ⟨gr,1,none⟩=some .nilFunc) (go_keep) (fail)
  all_goals
   go_wp2_with fail
   go_meet
   case rel=>exact ⟨_,_,rfl,rfl,by first | exact (Below.heap_alloc _ _ _ (by simp)).trans (heap_alloc_new wa _) | exact new2 _ _ _,(((Touch.refl [] wa).alloc _).alloc _).drew⟩
 case rest=>
  obtain ⟨B7,B8,rfl,rfl,hB7,tc⟩:=hcut
  have tw:=tA.trans tc
  have hB4c:=tc.tag0 79 _ _ _ hB4
  have hB6c:=tc.tag0 167 _ _ _ hB6
  clear c1 c2 r0' r1' hB4 hB6
  have c0:wc.cell? ⟨w.heap.size,0,none⟩=some (.int .i64 1):=by simp [World.cell?,hB4c]
  have c3:wc.cell? ⟨w.heap.size,3,none⟩=some (.string name):=by simp [World.cell?,hB4c]
  go_wp2_with (go_at_call 105; refine (HSC.out _ tw).mono ?_; rintro e w3 ⟨b,rfl,hb,t3⟩; have hB6d:=t3.tag0 167 _ _ _ hB6c; have g0:w3.frozen? ⟨w.heap.size+1,0,none⟩=false:=(by simp [World.frozen?,hB6d]); have g1:w3.frozen? ⟨w.heap.size+1,1,none⟩=false:=(by simp [World.frozen?,hB6d]); have HB6:Hid (w3.heap[w.heap.size+1]?=some (.cells #[.int .i64 0,.nilFunc] 167 (0,0))):=hB6d; obtain ⟨y0,y1⟩:=box2 hB6d; clear hB6d)
  have hW:((w3.setCell ⟨w.heap.size+1,0,none⟩ (.int .i64 (kn:Int))).setCell ⟨w.heap.size+1,1,none⟩ (.func (.func 162) #[] #[.pointer (some ⟨b,0,none⟩)])).heap[w.heap.size+1]?=some (.cells #[.int .i64 (kn:Int),.func (.func 162) #[] #[.pointer (some ⟨b,0,none⟩)]] 167 (0,0)):=by
   rw [heap_setCell_same _ (w.heap.size+1) 1 _ 167 _ (heap_setCell_same w3 (w.heap.size+1) 0 _ 167 _ HB6.out)]; simp
  obtain ⟨z0,z1⟩:=box2 hW
  have t5:Touch [w.heap.size+1] w3 ((w3.setCell ⟨w.heap.size+1,0,none⟩ (.int .i64 (kn:Int))).setCell ⟨w.heap.size+1,1,none⟩ (.func (.func 162) #[] #[.pointer (some ⟨b,0,none⟩)])):=((Touch.refl [w.heap.size+1] w3).setCell (p:=⟨w.heap.size+1,0,none⟩) (by simp) _).setCell (p:=⟨w.heap.size+1,1,none⟩) (by simp) _
  exact bodyPost_ret (v:=.agg #[.int .i64 (kn:Int),.func (.func 162) #[] #[.pointer (some ⟨b,0,none⟩)]]) (by simp [results,Tryz.results79,go_sem,z0,z1]) rfl ⟨b,rfl,t5.tag (notag_of HB6.out (by decide)) _ _ _ hb,(tw.trans t3).more t5 (fun i hi=>.inr (by rw [List.mem_singleton.1 hi]; omega))⟩
theorem resultSort_any (w:World) (q gr b kn:Nat) (ko:Option Addr) (kl kc:Nat) (v1 v2:Value) (hgr:w.heap[gr]?=some (.cells #[.int .i64 (kn:Int),.func (.func 162) #[] #[.pointer (some ⟨b,0,none⟩)],v1,v2] 167 (0,0))) :
  Calls Tryz.prog 79 #[.pointer (some ⟨q,0,none⟩),nodeVal 2 0 0 ⟨#[]⟩ (.slice ko kl kc) 0 (.slice none 0 0) (.slice none 0 0) (.slice none 0 0),.slice (some ⟨gr,0,none⟩) 2 2] w fun e w'=>∃ bq bk bc bl,e=.returned (.agg #[.int .i64 (kn:Int),.func (.func 132) #[] #[.pointer (some ⟨bq,0,none⟩),.pointer (some ⟨bk,0,none⟩),.pointer (some ⟨bc,0,none⟩),.pointer (some ⟨bl,0,none⟩)]]) /\ w'.heap[bq]?=some (.cells #[.pointer (some ⟨q,0,none⟩)] 159 (0,0)) /\ w'.heap[bl]?=some (.cells #[.func (.func 162) #[] #[.pointer (some ⟨b,0,none⟩)]] 165 (0,0)) /\ w'.heap[bk]?=some (.cells #[.slice ko kl kc] 74 (0,0)) /\ w'.heap[bc]?=some (.cells #[.int .i64 (20000:Int)] 3 (0,0)) /\ Touch [] w w':=by
 have r0:w.cell? ⟨gr,0,none⟩=some (.int .i64 (kn:Int)):=by simp [World.cell?,hgr]
 have r1:w.cell? ⟨gr,1,none⟩=some (.func (.func 162) #[] #[.pointer (some ⟨b,0,none⟩)]):=by simp [World.cell?,hgr]
 have hg:=(Array.getElem?_eq_some_iff.1 hgr).1
 unfold nodeVal
 go_enter Tryz.func79,Tryz.ntmps79
 go_wp2
 have tA:Touch [] w ((w.alloc (.cells #[.int .i64 2,.int .i64 0,.int .i64 0,.string ⟨#[]⟩,.slice ko kl kc,.int .i64 0,.slice none 0 0,.slice none 0 0,.slice none 0 0] 79)).alloc (.cells #[.int .i64 0,.nilFunc] 167)):=((Touch.refl [] w).alloc _).alloc _
 have hB4:((w.alloc (.cells #[.int .i64 2,.int .i64 0,.int .i64 0,.string ⟨#[]⟩,.slice ko kl kc,.int .i64 0,.slice none 0 0,.slice none 0 0,.slice none 0 0] 79)).alloc (.cells #[.int .i64 0,.nilFunc] 167)).heap[w.heap.size]?=some (.cells #[.int .i64 2,.int .i64 0,.int .i64 0,.string ⟨#[]⟩,.slice ko kl kc,.int .i64 0,.slice none 0 0,.slice none 0 0,.slice none 0 0] 79 (0,0)):=(Below.heap_alloc _ _ _ (by simp)).trans (heap_alloc_new w _)
 have hB6:((w.alloc (.cells #[.int .i64 2,.int .i64 0,.int .i64 0,.string ⟨#[]⟩,.slice ko kl kc,.int .i64 0,.slice none 0 0,.slice none 0 0,.slice none 0 0] 79)).alloc (.cells #[.int .i64 0,.nilFunc] 167)).heap[w.heap.size+1]?=some (.cells #[.int .i64 0,.nilFunc] 167 (0,0)):=by
  have e1:=heap_alloc_new (w.alloc (.cells #[.int .i64 2,.int .i64 0,.int .i64 0,.string ⟨#[]⟩,.slice ko kl kc,.int .i64 0,.slice none 0 0,.slice none 0 0,.slice none 0 0] 79)) (.cells #[.int .i64 0,.nilFunc] 167)
  rw [World.size_alloc] at e1
  exact e1
 have r0':=cell_touch r0 tA
 have r1':=cell_touch r1 tA
 have hsz:w.heap.size+2 <= ((w.alloc (.cells #[.int .i64 2,.int .i64 0,.int .i64 0,.string ⟨#[]⟩,.slice ko kl kc,.int .i64 0,.slice none 0 0,.slice none 0 0,.slice none 0 0] 79)).alloc (.cells #[.int .i64 0,.nilFunc] 167)).heap.size:=by simp
 clear r0 r1
 generalize (w.alloc (.cells #[.int .i64 2,.int .i64 0,.int .i64 0,.string ⟨#[]⟩,.slice ko kl kc,.int .i64 0,.slice none 0 0,.slice none 0 0,.slice none 0 0] 79)).alloc (.cells #[.int .i64 0,.nilFunc] 167)=wa at *
 have c1:wa.cell? ⟨w.heap.size,1,none⟩=some (.int .i64 0):=by simp [World.cell?,hB4]
 have c2:wa.cell? ⟨w.heap.size,2,none⟩=some (.int .i64 0):=by simp [World.cell?,hB4]
 have l1:w.heap.size < wa.heap.size:=by omega
 have l2:gr < wa.heap.size:=by omega
 have l3:wa.heap.size≠w.heap.size:=by omega
 have l4:wa.heap.size≠gr:=by omega
 have l5:wa.heap.size+1≠w.heap.size:=by omega
 have l6:wa.heap.size+1≠gr:=by omega
 go_cut [7,8] from 9 (fun a e8 wx=>∃ B7 B8,a=.pointer (some ⟨B7,0,none⟩) /\ e8=.pointer (some ⟨B8,0,none⟩) /\ wx.heap[B7]?=some (.cells #[.int .i64 (kn:Int),.func (.func 162) #[] #[.pointer (some ⟨b,0,none⟩)]] 167 (0,0)) /\ Touch [] wa wx /\ wa.heap.size <= B7)
 case first=>
  go_region_held3 (fun w'=>w'.cell? ⟨w.heap.size,1,none⟩=some (.int .i64 0) /\ w'.cell? ⟨w.heap.size,2,none⟩=some (.int .i64 0) /\ w'.cell? ⟨gr,0,none⟩=some (.int .i64 (kn:Int)) /\ w'.cell? ⟨gr,1,none⟩=some (.func (.func 162) #[] #[.pointer (some ⟨b,0,none⟩)])) (go_keep) (fail)
  all_goals
   go_wp2_with fail
   go_meet
   case rel=>exact ⟨_,_,rfl,rfl,by first | exact (Below.heap_alloc _ _ _ (by simp)).trans (heap_alloc_new wa _) | exact new2 _ _ _,(((Touch.refl [] wa).alloc _).alloc _).drew,by omega⟩
 case rest=>
  obtain ⟨B7,B8,rfl,rfl,hB7,tc,l7⟩:=hcut
  have l8:w.heap.size+1≠B7:=by omega
  have l9:B7≠w.heap.size+1:=by omega
  have tw:=tA.trans tc
  have hB4c:=tc.tag0 79 _ _ _ hB4
  have hB6c:=tc.tag0 167 _ _ _ hB6
  clear c1 c2 r0' r1' hB4 hB6
  have c0:wc.cell? ⟨w.heap.size,0,none⟩=some (.int .i64 2):=by simp [World.cell?,hB4c]
  have c4:wc.cell? ⟨w.heap.size,4,none⟩=some (.slice ko kl kc):=by simp [World.cell?,hB4c]
  obtain ⟨x0,x1⟩:=box2 hB7
  have HK:Hid (∀ W,Touch [] wc W -> W.cell? ⟨B7,0,none⟩=some (.int .i64 (kn:Int)) /\ W.cell? ⟨B7,1,none⟩=some (.func (.func 162) #[] #[.pointer (some ⟨b,0,none⟩)]) /\ W.cell? ⟨w.heap.size,4,none⟩=some (.slice ko kl kc)):=fun W hW=>⟨cell_touch x0 hW,cell_touch x1 hW,cell_touch c4 hW⟩
  have HB6:Hid (wc.heap[w.heap.size+1]?=some (.cells #[.int .i64 0,.nilFunc] 167 (0,0))):=hB6c
  go_wp2
  go_cut [] from 29 (fun wx=>∃ bq bk bc bl,wx.heap[w.heap.size+1]?=some (.cells #[.int .i64 (kn:Int),.func (.func 132) #[] #[.pointer (some ⟨bq,0,none⟩),.pointer (some ⟨bk,0,none⟩),.pointer (some ⟨bc,0,none⟩),.pointer (some ⟨bl,0,none⟩)]] 167 (0,0)) /\ wx.heap[bq]?=some (.cells #[.pointer (some ⟨q,0,none⟩)] 159 (0,0)) /\ wx.heap[bl]?=some (.cells #[.func (.func 162) #[] #[.pointer (some ⟨b,0,none⟩)]] 165 (0,0)) /\ wx.heap[bk]?=some (.cells #[.slice ko kl kc] 74 (0,0)) /\ wx.heap[bc]?=some (.cells #[.int .i64 (20000:Int)] 3 (0,0)) /\ Touch [w.heap.size+1] wc wx)
  case first=>
   go_region_held3 (fun w'=>w'.cell? ⟨B7,0,none⟩=some (.int .i64 (kn:Int)) /\ w'.cell? ⟨B7,1,none⟩=some (.func (.func 162) #[] #[.pointer (some ⟨b,0,none⟩)]) /\ w'.cell? ⟨w.heap.size,4,none⟩=some (.slice ko kl kc)) (go_keep) (first | (go_at_call 106; refine (sorted_any _ q 162 #[.pointer (some ⟨b,0,none⟩)] 20000 ko kl kc).mono ?_; rintro e w3 ⟨bq,bk,bc,bl,rfl,p1,p2,p3,p4,p5⟩; obtain ⟨k0,k1,k2⟩:=HK.out w3 (((Touch.refl [] _).drew).trans p5); have HT:Hid (Touch [] wc w3):=((Touch.refl [] _).drew).trans p5; have hB6d:=HT.out.tag0 167 _ _ _ HB6.out; have g0:w3.frozen? ⟨w.heap.size+1,0,none⟩=false:=(by simp [World.frozen?,hB6d]); have g1:w3.frozen? ⟨w.heap.size+1,1,none⟩=false:=(by simp [World.frozen?,hB6d]); obtain ⟨y0,y1⟩:=box2 hB6d; have HB6d:Hid (w3.heap[w.heap.size+1]?=some (.cells #[.int .i64 0,.nilFunc] 167 (0,0))):=hB6d; clear hB6d p5))
   all_goals
    go_wp2_with fail
    go_meet
    case rel=>
     have t5:Touch [w.heap.size+1] w3 ((w3.setCell ⟨w.heap.size+1,0,none⟩ (.int .i64 (kn:Int))).setCell ⟨w.heap.size+1,1,none⟩ (.func (.func 132) #[] #[.pointer (some ⟨bq,0,none⟩),.pointer (some ⟨bk,0,none⟩),.pointer (some ⟨bc,0,none⟩),.pointer (some ⟨bl,0,none⟩)])):=((Touch.refl [w.heap.size+1] w3).setCell (p:=⟨w.heap.size+1,0,none⟩) (by simp) _).setCell (p:=⟨w.heap.size+1,1,none⟩) (by simp) _
     have n5:∀ t,(167:TypeId)≠t -> KeepTag t w3 _:=fun t ht=>t5.tag (notag_of HB6d.out ht)
     refine ⟨bq,bk,bc,bl,?_,n5 159 (by decide) _ _ _ p1,n5 165 (by decide) _ _ _ p2,n5 74 (by decide) _ _ _ p3,n5 3 (by decide) _ _ _ p4,(HT.out.mono (by simp)).trans t5⟩
     rw [heap_setCell_same _ (w.heap.size+1) 1 _ 167 _ (heap_setCell_same w3 (w.heap.size+1) 0 _ 167 _ HB6d.out)]; simp
  case rest=>
   obtain ⟨bq,bk,bc,bl,p0,p1,p2,p3,p4,t5⟩:=hcut
   obtain ⟨z0,z1⟩:=box2 p0
   clear c0 c4 x0 x1
   go_wp2
   exact bodyPost_ret (v:=.agg #[.int .i64 (kn:Int),.func (.func 132) #[] #[.pointer (some ⟨bq,0,none⟩),.pointer (some ⟨bk,0,none⟩),.pointer (some ⟨bc,0,none⟩),.pointer (some ⟨bl,0,none⟩)]]) (by simp [results,Tryz.results79,go_sem,z0,z1]) rfl ⟨bq,bk,bc,bl,rfl,p1,p2,p3,p4,tw.more t5 (fun i hi=>.inr (by rw [List.mem_singleton.1 hi]; omega))⟩
end Go.Proofs.YtjoinhljdbljaaaGreat
namespace Go.Proofs.YtjoinhljdbljaaaGreat
open Go.RowKit
attribute [local go_sem] Oper.semAt_some
def planCells (name:ByteArray) (kv:Value):Array Value:=#[.int .i64 1,.int .i64 0,.int .i64 0,.string name,.slice none 0 0,.int .i64 0,.slice none 0 0,.slice none 0 0,.slice none 0 0,.int .i64 2,.int .i64 0,.int .i64 0,.string ⟨#[]⟩,kv,.int .i64 0,.slice none 0 0,.slice none 0 0,.slice none 0 0]
def PlanAt (w:World) (gp:Nat) (name:ByteArray) (kv:Value):Prop:=w.heap[gp]?=some (.cells (planCells name kv) 79 (0,0))
theorem PlanAt.keep {w w':World} {gp:Nat} {name:ByteArray} {kv:Value} (h:PlanAt w gp name kv) (k:KeepTag 79 w w'):PlanAt w' gp name kv:=k _ _ _ h
theorem PlanAt.cell {w:World} {gp:Nat} {name:ByteArray} {kv:Value} (h:PlanAt w gp name kv) (i:Nat) (v:Value) (hv:(planCells name kv)[i]?=some v):w.cell? ⟨gp,i,none⟩=some v:=by
 unfold PlanAt at h
 simp only [World.cell?,h]
 exact hv
theorem waits_any (w:World) (gp:Nat) (name:ByteArray) (kv:Value) (i:Nat) (hi:i=0 \/ i=1) (h:PlanAt w gp name kv):Calls Tryz.prog 80 #[.slice (some ⟨gp,0,none⟩) 2 2,.int .i64 (i:Int)] w fun e w'=>e=.returned (.bool false) /\ w'=w:=by
 have p0:=h.cell 0 (.int .i64 1) rfl
 clear h
 rcases hi with rfl | rfl
 ·go_enter Tryz.func80,Tryz.ntmps80
  go_wp2
  go_ret
  exact ⟨rfl,rfl⟩
 ·go_enter Tryz.func80,Tryz.ntmps80
  go_wp2
  go_ret
  exact ⟨rfl,rfl⟩
theorem giveBack_none (w:World) (q:Nat) (c0 c1 c2 c3 c4:Value) (u:FrameMode) (h:w.heap[q]?=some (.cells #[c0,c1,c2,c3,c4,.slice none 0 0] 162 (0,0))):CallsD Tryz.prog 78 #[.pointer (some ⟨q,0,none⟩)] u w fun e u' w'=>u'=u /\ e=.returned (.tuple #[]) /\ w'=w:=by
 have d5:w.cell? ⟨q,5,none⟩=some (.slice none 0 0):=by simp [World.cell?,h]
 clear h
 go_enter_d Tryz.func78,Tryz.ntmps78
 go_wp2
 refine wp_loop_rounds 1 ?_
 rw [rounds_succ]
 go_wp2
 first | go_end0 | refine bodyPost_ret (results_none rfl _ _ _) rfl ?_
 exact ⟨rfl,rfl⟩
theorem make163 (W:World):(Instr.makeSlice 163 (.int .i64 2) (.int .i64 2)).run Tryz.prog W=.ok (.slice (some ⟨W.heap.size,0,none⟩) 2 2) (W.alloc (.cells #[.int .i64 0,.nilFunc,.int .i64 0,.nilFunc] 167)):=by kernel_rfl
structure AskCtx (w:World) (gp:Nat) (tv sv kv:Value) (name:ByteArray) (ko:Option Addr) (kn kc:Nat) (bx bm blk fan bud cols:Nat) (ks:List K) (vs:List Value) (rows:List (List V)) (d:DS) (M:List PF):Prop where
 plan:PlanAt w gp name kv
 tab:TabAt w tv name (.slice ko kn kc) sv
 keys:KeysAt w kv ks
 list:LAt w sv vs
 len:vs.length=rows.length
 rowsAt:∀ i (h:i < vs.length) (h':i < rows.length),RowAt w vs[i] rows[i]
 pd:PD w bx bm d M
 ok:DiskOK d
 oks:RowsOK blk cols ks rows
 b1:16 <= blk
 b2:blk <= 4096
 b3:(blk:Int) <= d.block
 c1:1 <= cols
 c2:cols <= 1000
 bud1:4 * blk <= bud
 bud2:bud <= 9223372036854775807
 fan1:2 <= fan
 fan2:fan <= 1000000
 few:rows.length <= 20000
 hi:Hi bm (diskF bx bm M)
theorem AskCtx.quiet {w w':World} {gp:Nat} {tv sv kv:Value} {name:ByteArray} {ko:Option Addr} {kn kc:Nat} {bx bm blk fan bud cols:Nat} {ks:List K} {vs:List Value} {rows:List (List V)} {d:DS} {M:List PF} (h:AskCtx w gp tv sv kv name ko kn kc bx bm blk fan bud cols ks vs rows d M) (t:Touch [] w w'):AskCtx w' gp tv sv kv name ko kn kc bx bm blk fan bud cols ks vs rows d M:=
 { h with plan:=h.plan.keep (t.tag0 _),tab:=h.tab.keep (t.tag0 _),keys:=h.keys.touch t,list:=h.list.keep (t.tag0 _),rowsAt:=fun i a b=>(h.rowsAt i a b).touch t,pd:=h.pd.away t (by simp) }
theorem answer_any (w:World) (gp:Nat) (tv sv:Value) (kl kc2:Nat) (kvo:Option Addr) (name:ByteArray) (ko:Option Addr) (kn kc:Nat) (bx bm blk fan bud cols:Nat) (ks:List K) (vs:List Value) (rows:List (List V)) (d:DS) (M:List PF) (P m j j2:Nat) (h:AskCtx w gp tv sv (.slice kvo kl kc2) name ko kn kc bx bm blk fan bud cols ks vs rows d M) (hl:Left d (2 * rows.length+((P * (rows.length+1)+m)+1)) (rows.length+j)) (hP:1000000000 <= P+j) (hPj:P+j2 <= j) (hPs:P <= 900000) :
  Calls Tryz.prog 59 #[tv,.slice (some ⟨gp,0,none⟩) 2 2,.agg #[.int .i64 (blk:Int),.int .i64 (fan:Int),.int .i64 (bud:Int)],.pointer (some ⟨bx,0,none⟩)] w fun e w'=>∃ lv out,e=.returned lv /\ out.Perm (recsOf rows) /\ Srt ks out /\ (∃ vs',LOwn w' lv vs' /\ vs'.length=out.length /\ ∀ i (_:i < vs'.length) (_:i < out.length),RowAt w' vs'[i] out[i].row) /\ (∃ d' M',RunsSt w' bx bm blk cols d' M' [] none /\ Left d' m j2) /\ Kept bm w w':=by
 have htv:∃ o n c,tv=.slice o n c:=by
  obtain ⟨g,o,cap,cs,e,_⟩:=h.tab.st
  exact ⟨_,_,_,e⟩
 obtain ⟨tO,tn,tc,rfl⟩:=htv
 have HH:Hid (AskCtx w gp (.slice tO tn tc) sv (.slice kvo kl kc2) name ko kn kc bx bm blk fan bud cols ks vs rows d M):=h
 have HL:Hid (Left d (2 * rows.length+((P * (rows.length+1)+m)+1)) (rows.length+j)):=hl
 have hgp:=(Array.getElem?_eq_some_iff.1 h.plan).1
 clear h hl
 have hmk:=make163
 go_enter_defers Tryz.func59,Tryz.ntmps59
 go_wp2
 have tA:Touch [] w (((w.alloc (.cells #[.int .i64 (blk:Int),.int .i64 (fan:Int),.int .i64 (bud:Int)] 51)).alloc (.cells #[.slice tO tn tc,.int .i64 (blk:Int),.int .i64 (fan:Int),.int .i64 (bud:Int),.pointer (some ⟨bx,0,none⟩),.slice none 0 0] 162)).alloc (.cells #[.int .i64 0,.nilFunc,.int .i64 0,.nilFunc] 167)):=(((Touch.refl [] w).alloc _).alloc _).alloc _
 have hQ:(((w.alloc (.cells #[.int .i64 (blk:Int),.int .i64 (fan:Int),.int .i64 (bud:Int)] 51)).alloc (.cells #[.slice tO tn tc,.int .i64 (blk:Int),.int .i64 (fan:Int),.int .i64 (bud:Int),.pointer (some ⟨bx,0,none⟩),.slice none 0 0] 162)).alloc (.cells #[.int .i64 0,.nilFunc,.int .i64 0,.nilFunc] 167)).heap[w.heap.size+1]?=some (.cells #[.slice tO tn tc,.int .i64 (blk:Int),.int .i64 (fan:Int),.int .i64 (bud:Int),.pointer (some ⟨bx,0,none⟩),.slice none 0 0] 162 (0,0)):=(Below.heap_alloc _ _ _ (by simp only [World.size_alloc]; omega)).trans (new2 _ _ _)
 have hG:(((w.alloc (.cells #[.int .i64 (blk:Int),.int .i64 (fan:Int),.int .i64 (bud:Int)] 51)).alloc (.cells #[.slice tO tn tc,.int .i64 (blk:Int),.int .i64 (fan:Int),.int .i64 (bud:Int),.pointer (some ⟨bx,0,none⟩),.slice none 0 0] 162)).alloc (.cells #[.int .i64 0,.nilFunc,.int .i64 0,.nilFunc] 167)).heap[w.heap.size+1+1]?=some (.cells #[.int .i64 0,.nilFunc,.int .i64 0,.nilFunc] 167 (0,0)):=by
  have e1:=heap_alloc_new ((w.alloc (.cells #[.int .i64 (blk:Int),.int .i64 (fan:Int),.int .i64 (bud:Int)] 51)).alloc (.cells #[.slice tO tn tc,.int .i64 (blk:Int),.int .i64 (fan:Int),.int .i64 (bud:Int),.pointer (some ⟨bx,0,none⟩),.slice none 0 0] 162)) (.cells #[.int .i64 0,.nilFunc,.int .i64 0,.nilFunc] 167)
  rw [World.size_alloc,World.size_alloc] at e1
  exact e1
 have hsz:w.heap.size+3 <= (((w.alloc (.cells #[.int .i64 (blk:Int),.int .i64 (fan:Int),.int .i64 (bud:Int)] 51)).alloc (.cells #[.slice tO tn tc,.int .i64 (blk:Int),.int .i64 (fan:Int),.int .i64 (bud:Int),.pointer (some ⟨bx,0,none⟩),.slice none 0 0] 162)).alloc (.cells #[.int .i64 0,.nilFunc,.int .i64 0,.nilFunc] 167)).heap.size:=by simp
 generalize ((w.alloc (.cells #[.int .i64 (blk:Int),.int .i64 (fan:Int),.int .i64 (bud:Int)] 51)).alloc (.cells #[.slice tO tn tc,.int .i64 (blk:Int),.int .i64 (fan:Int),.int .i64 (bud:Int),.pointer (some ⟨bx,0,none⟩),.slice none 0 0] 162)).alloc (.cells #[.int .i64 0,.nilFunc,.int .i64 0,.nilFunc] 167)=wa at *
 have hP0:=HH.out.plan.keep (tA.tag0 79)
 have p0:wa.cell? ⟨gp,0,none⟩=some (.int .i64 1):=hP0.cell 0 _ rfl
 have p1:wa.cell? ⟨gp,1,none⟩=some (.int .i64 0):=hP0.cell 1 _ rfl
 have p2:wa.cell? ⟨gp,2,none⟩=some (.int .i64 0):=hP0.cell 2 _ rfl
 have p3:wa.cell? ⟨gp,3,none⟩=some (.string name):=hP0.cell 3 _ rfl
 have p4:wa.cell? ⟨gp,4,none⟩=some (.slice none 0 0):=hP0.cell 4 _ rfl
 have p5:wa.cell? ⟨gp,5,none⟩=some (.int .i64 0):=hP0.cell 5 _ rfl
 have p6:wa.cell? ⟨gp,6,none⟩=some (.slice none 0 0):=hP0.cell 6 _ rfl
 have p7:wa.cell? ⟨gp,7,none⟩=some (.slice none 0 0):=hP0.cell 7 _ rfl
 have p8:wa.cell? ⟨gp,8,none⟩=some (.slice none 0 0):=hP0.cell 8 _ rfl
 have hgw:gp < wa.heap.size:=by omega
 have HRS:Hid (∀ W,Touch [] wa W -> Calls Tryz.prog 79 #[.pointer (some ⟨w.heap.size+1,0,none⟩),.agg #[.int .i64 1,.int .i64 0,.int .i64 0,.string name,.slice none 0 0,.int .i64 0,.slice none 0 0,.slice none 0 0,.slice none 0 0],.slice (some ⟨w.heap.size+1+1,0,none⟩) 2 2] W fun e w'=>∃ b,e=.returned (.agg #[.int .i64 (kn:Int),.func (.func 162) #[] #[.pointer (some ⟨b,0,none⟩)]]) /\ w'.heap[b]?=some (.cells #[sv] 36 (0,0)) /\ Touch [] W w'):=fun W hW=>by
  have hA:=HH.out.quiet (tA.trans hW)
  exact resultScan_any W (w.heap.size+1) (w.heap.size+1+1) (.slice tO tn tc) (.slice none 0 0) bx blk fan bud name kn kc ko sv vs rows _ _ (hW.tag0 _ _ _ _ hQ) hA.tab hA.list hA.len hA.rowsAt (fun r hr v hv=>by
   obtain ⟨i,hi,rfl⟩:=List.getElem_of_mem hr
   exact (hA.oks.ok i hi).fair v hv) (fun r hr=>by
   obtain ⟨i,hi,rfl⟩:=List.getElem_of_mem hr
   have e1:=(hA.oks.ok i hi).size
   have e2:=(hA.oks.ok i hi).len
   have e3:=hA.c2
   simp only at e1 e2
   exact ⟨e1,by omega⟩) hA.b2 hA.few (hW.tag0 _ _ _ _ hG)
 refine wp_loop_rounds 3 ?_
 rw [rounds_succ]
 go_wp2_with (go_at_call 79; refine (HRS.out _ ((Touch.refl [] _).alloc _)).mono ?_; rintro e w2 ⟨b,rfl,hb,t2⟩; have hG2:=(((Touch.refl [] _).alloc _).trans t2).tag0 167 _ _ _ hG; have y0:w2.cell? ⟨w.heap.size+1+1,0,none⟩=some (.int .i64 0):=(by simp [World.cell?,hG2]); have y1:w2.cell? ⟨w.heap.size+1+1,1,none⟩=some .nilFunc:=(by simp [World.cell?,hG2]); have g0:w2.frozen? ⟨w.heap.size+1+1,0,none⟩=false:=(by simp [World.frozen?,hG2]); have g1:w2.frozen? ⟨w.heap.size+1+1,1,none⟩=false:=(by simp [World.frozen?,hG2]))
 have t23:Touch [w.heap.size+1+1] w2 ((w2.setCell ⟨w.heap.size+1+1,0,none⟩ (.int .i64 (kn:Int))).setCell ⟨w.heap.size+1+1,1,none⟩ (.func (.func 162) #[] #[.pointer (some ⟨b,0,none⟩)])):=((Touch.refl [w.heap.size+1+1] w2).setCell (p:=⟨w.heap.size+1+1,0,none⟩) (by simp) _).setCell (p:=⟨w.heap.size+1+1,1,none⟩) (by simp) _
 have hG3:((w2.setCell ⟨w.heap.size+1+1,0,none⟩ (.int .i64 (kn:Int))).setCell ⟨w.heap.size+1+1,1,none⟩ (.func (.func 162) #[] #[.pointer (some ⟨b,0,none⟩)])).heap[w.heap.size+1+1]?=some (.cells #[.int .i64 (kn:Int),.func (.func 162) #[] #[.pointer (some ⟨b,0,none⟩)],.int .i64 0,.nilFunc] 167 (0,0)):=by
  rw [heap_setCell_same _ (w.heap.size+1+1) 1 _ 167 _ (heap_setCell_same w2 (w.heap.size+1+1) 0 _ 167 _ hG2)]; simp
 have ta2:Touch [] wa w2:=((Touch.refl [] _).alloc _).trans t2
 have k23:∀ t,(167:TypeId)≠t -> KeepTag t w2 ((w2.setCell ⟨w.heap.size+1+1,0,none⟩ (.int .i64 (kn:Int))).setCell ⟨w.heap.size+1+1,1,none⟩ (.func (.func 162) #[] #[.pointer (some ⟨b,0,none⟩)])):=fun t ht=>t23.tag (notag_of hG2 ht)
 have tw3:Touch [] w ((w2.setCell ⟨w.heap.size+1+1,0,none⟩ (.int .i64 (kn:Int))).setCell ⟨w.heap.size+1+1,1,none⟩ (.func (.func 162) #[] #[.pointer (some ⟨b,0,none⟩)])):=(tA.trans ta2).more t23 (fun i hi=>.inr (by rw [List.mem_singleton.1 hi]; omega))
 have hQ3:=k23 162 (by decide) _ _ _ (ta2.tag0 162 _ _ _ hQ)
 have hb3:=k23 36 (by decide) _ _ _ hb
 have hsz3:=tw3.size
 clear y0 y1 g0 g1 p0 p1 p2 p3 p4 p5 p6 p7 p8 hG2 t23 k23 t2 hb HRS hQ hG hP0 ta2
 generalize (w2.setCell ⟨w.heap.size+1+1,0,none⟩ (.int .i64 (kn:Int))).setCell ⟨w.heap.size+1+1,1,none⟩ (.func (.func 162) #[] #[.pointer (some ⟨b,0,none⟩)])=w3 at *
 have hP3:=HH.out.plan.keep (tw3.tag0 79)
 have hwt:=waits_any w3 gp name (.slice kvo kl kc2) 0 (.inl rfl) hP3
 refine hwt.mono ?_
 rintro e w3' ⟨rfl,hw3⟩
 rw [hw3]
 clear hw3 w3' hwt
 go_wp2
 have p9:w3.cell? ⟨gp,9,none⟩=some (.int .i64 2):=hP3.cell 9 _ rfl
 have p10:w3.cell? ⟨gp,10,none⟩=some (.int .i64 0):=hP3.cell 10 _ rfl
 have p11:w3.cell? ⟨gp,11,none⟩=some (.int .i64 0):=hP3.cell 11 _ rfl
 have p12:w3.cell? ⟨gp,12,none⟩=some (.string ⟨#[]⟩):=hP3.cell 12 _ rfl
 have p13:w3.cell? ⟨gp,13,none⟩=some (.slice kvo kl kc2):=hP3.cell 13 _ rfl
 have p14:w3.cell? ⟨gp,14,none⟩=some (.int .i64 0):=hP3.cell 14 _ rfl
 have p15:w3.cell? ⟨gp,15,none⟩=some (.slice none 0 0):=hP3.cell 15 _ rfl
 have p16:w3.cell? ⟨gp,16,none⟩=some (.slice none 0 0):=hP3.cell 16 _ rfl
 have p17:w3.cell? ⟨gp,17,none⟩=some (.slice none 0 0):=hP3.cell 17 _ rfl
 have HRT:Hid (∀ W,Touch [] w3 W -> Calls Tryz.prog 79 #[.pointer (some ⟨w.heap.size+1,0,none⟩),.agg #[.int .i64 2,.int .i64 0,.int .i64 0,.string ⟨#[]⟩,.slice kvo kl kc2,.int .i64 0,.slice none 0 0,.slice none 0 0,.slice none 0 0],.slice (some ⟨w.heap.size+1+1,0,none⟩) 2 2] W fun e w'=>∃ bq bk bc bl,e=.returned (.agg #[.int .i64 (kn:Int),.func (.func 132) #[] #[.pointer (some ⟨bq,0,none⟩),.pointer (some ⟨bk,0,none⟩),.pointer (some ⟨bc,0,none⟩),.pointer (some ⟨bl,0,none⟩)]]) /\ w'.heap[bq]?=some (.cells #[.pointer (some ⟨w.heap.size+1,0,none⟩)] 159 (0,0)) /\ w'.heap[bl]?=some (.cells #[.func (.func 162) #[] #[.pointer (some ⟨b,0,none⟩)]] 165 (0,0)) /\ w'.heap[bk]?=some (.cells #[.slice kvo kl kc2] 74 (0,0)) /\ w'.heap[bc]?=some (.cells #[.int .i64 (20000:Int)] 3 (0,0)) /\ Touch [] W w'):=fun W hW=>resultSort_any W (w.heap.size+1) (w.heap.size+1+1) b kn kvo kl kc2 _ _ (hW.tag0 _ _ _ _ hG3)
 have hg3:gp < w3.heap.size:=by omega
 rw [rounds_succ]
 go_wp2_with (go_at_call 79; refine (HRT.out _ ((Touch.refl [] _).alloc _)).mono ?_; rintro e w4 ⟨bq,bk,bc,bl,rfl,z1,z2,z3,z4,t4⟩; have hG4:=(((Touch.refl [] _).alloc _).trans t4).tag0 167 _ _ _ hG3; have y0:w4.cell? ⟨w.heap.size+1+1,2,none⟩=some (.int .i64 0):=(by simp [World.cell?,hG4]); have y1:w4.cell? ⟨w.heap.size+1+1,3,none⟩=some .nilFunc:=(by simp [World.cell?,hG4]); have g0:w4.frozen? ⟨w.heap.size+1+1,2,none⟩=false:=(by simp [World.frozen?,hG4]); have g1:w4.frozen? ⟨w.heap.size+1+1,3,none⟩=false:=(by simp [World.frozen?,hG4]))
 have t45:Touch [w.heap.size+1+1] w4 ((w4.setCell ⟨w.heap.size+1+1,2,none⟩ (.int .i64 (kn:Int))).setCell ⟨w.heap.size+1+1,3,none⟩ (.func (.func 132) #[] #[.pointer (some ⟨bq,0,none⟩),.pointer (some ⟨bk,0,none⟩),.pointer (some ⟨bc,0,none⟩),.pointer (some ⟨bl,0,none⟩)])):=((Touch.refl [w.heap.size+1+1] w4).setCell (p:=⟨w.heap.size+1+1,2,none⟩) (by simp) _).setCell (p:=⟨w.heap.size+1+1,3,none⟩) (by simp) _
 have hG5:((w4.setCell ⟨w.heap.size+1+1,2,none⟩ (.int .i64 (kn:Int))).setCell ⟨w.heap.size+1+1,3,none⟩ (.func (.func 132) #[] #[.pointer (some ⟨bq,0,none⟩),.pointer (some ⟨bk,0,none⟩),.pointer (some ⟨bc,0,none⟩),.pointer (some ⟨bl,0,none⟩)])).heap[w.heap.size+1+1]?=some (.cells #[.int .i64 (kn:Int),.func (.func 162) #[] #[.pointer (some ⟨b,0,none⟩)],.int .i64 (kn:Int),.func (.func 132) #[] #[.pointer (some ⟨bq,0,none⟩),.pointer (some ⟨bk,0,none⟩),.pointer (some ⟨bc,0,none⟩),.pointer (some ⟨bl,0,none⟩)]] 167 (0,0)):=by
  rw [heap_setCell_same _ (w.heap.size+1+1) 3 _ 167 _ (heap_setCell_same w4 (w.heap.size+1+1) 2 _ 167 _ hG4)]; simp
 have ta4:Touch [] w3 w4:=((Touch.refl [] _).alloc _).trans t4
 have k45:∀ t,(167:TypeId)≠t -> KeepTag t w4 ((w4.setCell ⟨w.heap.size+1+1,2,none⟩ (.int .i64 (kn:Int))).setCell ⟨w.heap.size+1+1,3,none⟩ (.func (.func 132) #[] #[.pointer (some ⟨bq,0,none⟩),.pointer (some ⟨bk,0,none⟩),.pointer (some ⟨bc,0,none⟩),.pointer (some ⟨bl,0,none⟩)])):=fun t ht=>t45.tag (notag_of hG4 ht)
 have tw5:Touch [] w ((w4.setCell ⟨w.heap.size+1+1,2,none⟩ (.int .i64 (kn:Int))).setCell ⟨w.heap.size+1+1,3,none⟩ (.func (.func 132) #[] #[.pointer (some ⟨bq,0,none⟩),.pointer (some ⟨bk,0,none⟩),.pointer (some ⟨bc,0,none⟩),.pointer (some ⟨bl,0,none⟩)])):=(tw3.trans ta4).more t45 (fun i hi=>.inr (by rw [List.mem_singleton.1 hi]; omega))
 have hQ5:=k45 162 (by decide) _ _ _ (ta4.tag0 162 _ _ _ hQ3)
 have hb5:=k45 36 (by decide) _ _ _ (ta4.tag0 36 _ _ _ hb3)
 have u1:=k45 159 (by decide) _ _ _ z1
 have u2:=k45 165 (by decide) _ _ _ z2
 have u3:=k45 74 (by decide) _ _ _ z3
 have u4:=k45 3 (by decide) _ _ _ z4
 clear y0 y1 g0 g1 p9 p10 p11 p12 p13 p14 p15 p16 p17 hG4 t45 k45 t4 HRT hQ3 hG3 ta4 z1 z2 z3 z4 hb3 hP3
 generalize (w4.setCell ⟨w.heap.size+1+1,2,none⟩ (.int .i64 (kn:Int))).setCell ⟨w.heap.size+1+1,3,none⟩ (.func (.func 132) #[] #[.pointer (some ⟨bq,0,none⟩),.pointer (some ⟨bk,0,none⟩),.pointer (some ⟨bc,0,none⟩),.pointer (some ⟨bl,0,none⟩)])=w5 at *
 have hP5:=HH.out.plan.keep (tw5.tag0 79)
 have hwt:=waits_any w5 gp name (.slice kvo kl kc2) 1 (.inr rfl) hP5
 refine hwt.mono ?_
 rintro e w5' ⟨rfl,hw5⟩
 rw [hw5]
 clear hw5 w5' hwt
 go_wp2
 rw [rounds_succ]
 have v3:w5.cell? ⟨w.heap.size+1+1,3,none⟩=some (.func (.func 132) #[] #[.pointer (some ⟨bq,0,none⟩),.pointer (some ⟨bk,0,none⟩),.pointer (some ⟨bc,0,none⟩),.pointer (some ⟨bl,0,none⟩)]):=by simp [World.cell?,hG5]
 have hA5:=HH.out.quiet tw5
 have hctx:SrtCtx w5 bq bk bc bl b (w.heap.size+1) (.slice tO tn tc) (.slice none 0 0) (.slice kvo kl kc2) sv bx bm blk fan bud 20000 cols ks vs rows d M:=⟨u1,hQ5,u3,hA5.keys,u4,u2,hb5,hA5.list,hA5.len,hA5.rowsAt,hA5.pd,hA5.ok,hA5.oks,hA5.b1,hA5.b2,hA5.b3,hA5.c1,hA5.c2,hA5.bud1,hA5.bud2,hA5.fan1,hA5.fan2,by have:=hA5.few; omega,hA5.few,hA5.hi⟩
 have hcp:=copied_any w5 bq bk bc bl b (w.heap.size+1) (.slice tO tn tc) (.slice none 0 0) (.slice kvo kl kc2) sv bx bm blk fan bud 20000 cols ks vs rows d M P m j j2 hctx HL.out hP hPj hPs
 go_wp2_with (go_at_call 82; refine hcp.mono ?_; rintro e w6 ⟨lv,out,rfl,x1,x2,x3,x4,x5⟩)
 have hQ6:=x5.2 162 (by decide) (by decide) _ _ _ hQ5
 refine leaves_cons (f:=78) (args:=#[.pointer (some ⟨w.heap.size+1,0,none⟩)]) (by simp) (by simp [go_sem]) ?_
 refine (giveBack_none w6 (w.heap.size+1) _ _ _ _ _ .returning hQ6).mono ?_
 rintro e u' w7 ⟨rfl,rfl,hw7⟩
 rw [hw7]
 exact ⟨_,results_tmp rfl _ _ _,lv,out,rfl,x1,x2,x3,x4,tw5.kept.trans x5⟩
end Go.Proofs.YtjoinhljdbljaaaGreat
