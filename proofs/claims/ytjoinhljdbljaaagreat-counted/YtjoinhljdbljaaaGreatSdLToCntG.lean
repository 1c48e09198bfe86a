/- What Sorted holds while it looks at the answer, and what follows. -/
import Derived.Test.YtjoinhljdbljaaaGreatSdEToSdK
import Derived.Deep.Cut
set_option maxHeartbeats 4000000
set_option maxRecDepth 20000
namespace Go.Proofs.YtjoinhljdbljaaaGreat
open Go.RowKit
def keysC (down last:Bool):Array Value:=#[.int .i64 0,.bool down,.bool last,.int .i64 3,.bool last,.bool false]
def keysL (down last:Bool):List K:=[⟨0,down,last⟩,⟨3,last,false⟩]
structure SdSt (w W:World) (bC bT bK bk:Nat) (sv:Value) (cb cf cu:Int) (down last:Bool) (raw:List Int) (vs:List Value) (rows:List (List V)):Prop where
 cfg:W.heap[bC]?=some (.cells #[.int .i64 cb,.int .i64 cf,.int .i64 cu] 51 (0,0))
 tab:W.heap[bT]?=some (.cells #[.string nameT,.slice (some ⟨bk,0,none⟩) 4 4,sv] 70 (0,0))
 keys:W.heap[bK]?=some (.cells (keysC down last) 73 (0,0))
 kinds:W.heap[bk]?=some (.cells kindsC 3 (0,0))
 list:LOwn W sv vs
 len:vs.length=rows.length
 rowsAt:∀ i (_:i < vs.length) (_:i < rows.length),RowAt W vs[i] rows[i]
 trow:∀ i (h:i < rows.length),TRow raw i rows[i]
 num:rows.length <= 1000
 low:Low w.heap.size w W
theorem RawAt.quiet {w W:World} {v:Value} {raw:List Int} (h:RawAt w v raw) (t:Touch [] w W):RawAt W v raw:=by
 obtain ⟨h1,h2,ao,cap,e,hx⟩:=h
 refine ⟨h1,h2,ao,cap,e,fun hn=>?_⟩
 obtain ⟨b,off,e2,hx⟩:=hx hn
 exact ⟨b,off,e2,fun j hj=>cell_touch (hx j hj) t⟩
def SeenAt (W:World) (bs n:Nat) (out:List Rec) (i:Nat):Prop:=∃ cs,W.heap[bs]?=some (.cells cs 4 (0,0)) /\ cs.size=n /\ ∀ j,j < n -> cs[j]?=some (.bool (decide (∃ r,r < i /\ ∃ h:r < out.length,out[r].no=(j:Int))))
def AnsAt (W:World) (lo:Option Addr) (n lc:Nat) (out:List Rec):Prop:=∃ vs',LOwn W (.slice lo n lc) vs' /\ vs'.length=out.length /\ ∀ i (_:i < vs'.length) (_:i < out.length),RowAt W vs'[i] out[i].row
def Sixs (W:World) (bT bC bk:Nat) (sv:Value) (cb cf cu:Int):Prop:=
 (W.cell? ⟨bT,0,none⟩=some (.string nameT) /\ W.cell? ⟨bT,1,none⟩=some (.slice (some ⟨bk,0,none⟩) 4 4) /\ W.cell? ⟨bT,2,none⟩=some sv) /\ (W.cell? ⟨bC,0,none⟩=some (.int .i64 cb) /\ W.cell? ⟨bC,1,none⟩=some (.int .i64 cf) /\ W.cell? ⟨bC,2,none⟩=some (.int .i64 cu))
theorem roomy_any (w:World) (b f u:Int) (hb:I64 b) (hf:I64 f) (hu:I64 u) :
  Calls Tryz.prog 37 #[.agg #[.int .i64 b,.int .i64 f,.int .i64 u]] w fun e w'=>∃ blk fan bud:Nat,e=.returned (.agg #[.int .i64 (blk:Int),.int .i64 (fan:Int),.int .i64 (bud:Int)]) /\ (192 <= blk /\ blk <= 640) /\ (2 <= fan /\ fan <= 16) /\ (4 * blk <= bud /\ 6400 <= bud /\ bud <= 110000) /\ Touch [] w w':=by
 have HF:Hid (∀ W,Calls Tryz.prog 34 #[.agg #[.int .i64 b,.int .i64 f,.int .i64 u]] W fun e w'=>∃ blk fan bud:Nat,e=.returned (.agg #[.int .i64 (blk:Int),.int .i64 (fan:Int),.int .i64 (bud:Int)]) /\ (64 <= blk /\ blk <= 512) /\ (2 <= fan /\ fan <= 16) /\ (4 * blk <= bud /\ bud <= 100000) /\ Touch [] W w'):=fun W=>fit_any W b f u hb hf hu
 go_enter Tryz.func37,Tryz.ntmps37
 go_upto_region 2 with (first | (go_at_call 34; refine (HF.out _).mono ?_; rintro e w1 ⟨blk,fan,bud,rfl,h1,h2,h3,hT⟩; have hB:w1.heap[w.heap.size]?=some (.cells #[.int .i64 b,.int .i64 f,.int .i64 u] 51 (0,0)):=hT.tag0 51 _ _ _ ((Below.heap_alloc _ _ _ (by simp)).trans (heap_alloc_new w _)); obtain ⟨c0,c1,c2⟩:=box3 hB; have f0:w1.frozen? ⟨w.heap.size,0,none⟩=false:=(by simp [World.frozen?,hB]); have f1:w1.frozen? ⟨w.heap.size,1,none⟩=false:=(by simp [World.frozen?,hB]); have f2:w1.frozen? ⟨w.heap.size,2,none⟩=false:=(by simp [World.frozen?,hB]); have q1:IntKind.i64.wrap ((blk:Int)+128)=(blk:Int)+128:=(wrap_small _ (by omega) (by omega)); have q2:IntKind.i64.wrap ((bud:Int)+6400)=(bud:Int)+6400:=(wrap_small _ (by omega) (by omega)); have H123:Hid ((64 <= blk /\ blk <= 512) /\ (2 <= fan /\ fan <= 16) /\ (4 * blk <= bud /\ bud <= 100000)):=⟨h1,h2,h3⟩; clear h1 h2 h3; have l0:=lt_of_cell c0; have HT:Hid (Touch [] ((w.alloc (.cells #[.int .i64 b,.int .i64 f,.int .i64 u] 51)).alloc (.cells #[.int .i64 0,.int .i64 0,.int .i64 0] 51)) w1):=hT; have HD:Hid (w1.heap[w.heap.size+1]?=some (.cells #[.int .i64 0,.int .i64 0,.int .i64 0] 51 (0,0))):=hT.tag0 51 _ _ _ (new2 _ _ _); have HB:Hid (w1.heap[w.heap.size]?=some (.cells #[.int .i64 b,.int .i64 f,.int .i64 u] 51 (0,0))):=hB; clear hT hB))
 have hB3:(((w1.setCell ⟨w.heap.size,0,none⟩ (.int .i64 (blk:Int))).setCell ⟨w.heap.size,1,none⟩ (.int .i64 (fan:Int))).setCell ⟨w.heap.size,2,none⟩ (.int .i64 (bud:Int))).heap[w.heap.size]?=some (.cells #[.int .i64 (blk:Int),.int .i64 (fan:Int),.int .i64 (bud:Int)] 51 (0,0)):=by
  rw [heap_setCell_same _ w.heap.size 2 _ 51 _ (heap_setCell_same _ w.heap.size 1 _ 51 _ (heap_setCell_same w1 w.heap.size 0 _ 51 _ HB.out))]; simp
 have hT3:Touch [] w (((w1.setCell ⟨w.heap.size,0,none⟩ (.int .i64 (blk:Int))).setCell ⟨w.heap.size,1,none⟩ (.int .i64 (fan:Int))).setCell ⟨w.heap.size,2,none⟩ (.int .i64 (bud:Int))):=((((Touch.refl [] _).alloc _).alloc _).trans HT.out).more ((((Touch.refl [w.heap.size] _).setCell (p:=⟨w.heap.size,0,none⟩) (by simp) _).setCell (p:=⟨w.heap.size,1,none⟩) (by simp) _).setCell (p:=⟨w.heap.size,2,none⟩) (by simp) _) (fun i hi=>.inr (by rw [List.mem_singleton.1 hi]; exact Nat.le_refl _))
 have HT3:Hid (Touch [] w (((w1.setCell ⟨w.heap.size,0,none⟩ (.int .i64 (blk:Int))).setCell ⟨w.heap.size,1,none⟩ (.int .i64 (fan:Int))).setCell ⟨w.heap.size,2,none⟩ (.int .i64 (bud:Int)))):=hT3
 have HD2:Hid ((((w1.setCell ⟨w.heap.size,0,none⟩ (.int .i64 (blk:Int))).setCell ⟨w.heap.size,1,none⟩ (.int .i64 (fan:Int))).setCell ⟨w.heap.size,2,none⟩ (.int .i64 (bud:Int))).heap[w.heap.size+1]?=some (.cells #[.int .i64 0,.int .i64 0,.int .i64 0] 51 (0,0))):=by
  show _=_
  rw [heap_setCell_other _ _ (w.heap.size+1) _ (by simp),heap_setCell_other _ _ (w.heap.size+1) _ (by simp),heap_setCell_other _ _ (w.heap.size+1) _ (by simp)]; exact HD.out
 clear hT3 c0 c1 c2 f0 f1 f2 HB HT HD
 generalize ((w1.setCell ⟨w.heap.size,0,none⟩ (.int .i64 (blk:Int))).setCell ⟨w.heap.size,1,none⟩ (.int .i64 (fan:Int))).setCell ⟨w.heap.size,2,none⟩ (.int .i64 (bud:Int))=w2 at *
 obtain ⟨c0,c1,c2⟩:=box3 hB3
 have f0:w2.frozen? ⟨w.heap.size,0,none⟩=false:=by simp [World.frozen?,hB3]
 have f2:w2.frozen? ⟨w.heap.size,2,none⟩=false:=by simp [World.frozen?,hB3]
 have HB3:Hid (w2.heap[w.heap.size]?=some (.cells #[.int .i64 (blk:Int),.int .i64 (fan:Int),.int .i64 (bud:Int)] 51 (0,0))):=hB3
 clear hB3
 go_upto_region 4 with fail
 have hB4:((w2.setCell ⟨w.heap.size,0,none⟩ (.int .i64 ((blk:Int)+128))).setCell ⟨w.heap.size,2,none⟩ (.int .i64 ((bud:Int)+6400))).heap[w.heap.size]?=some (.cells #[.int .i64 ((blk:Int)+128),.int .i64 (fan:Int),.int .i64 ((bud:Int)+6400)] 51 (0,0)):=by
  rw [heap_setCell_same _ w.heap.size 2 _ 51 _ (heap_setCell_same w2 w.heap.size 0 _ 51 _ HB3.out)]; simp
 have hD4:((w2.setCell ⟨w.heap.size,0,none⟩ (.int .i64 ((blk:Int)+128))).setCell ⟨w.heap.size,2,none⟩ (.int .i64 ((bud:Int)+6400))).heap[w.heap.size+1]?=some (.cells #[.int .i64 0,.int .i64 0,.int .i64 0] 51 (0,0)):=by
  rw [heap_setCell_other _ _ (w.heap.size+1) _ (by simp),heap_setCell_other _ _ (w.heap.size+1) _ (by simp)]; exact HD2.out
 have HT4:Hid (Touch [] w ((w2.setCell ⟨w.heap.size,0,none⟩ (.int .i64 ((blk:Int)+128))).setCell ⟨w.heap.size,2,none⟩ (.int .i64 ((bud:Int)+6400)))):=HT3.out.more (((Touch.refl [w.heap.size] _).setCell (p:=⟨w.heap.size,0,none⟩) (by simp) _).setCell (p:=⟨w.heap.size,2,none⟩) (by simp) _) (fun i hi=>.inr (by rw [List.mem_singleton.1 hi]; exact Nat.le_refl _))
 clear c0 c1 c2 f0 f2 HB3 HT3 HD2
 generalize (w2.setCell ⟨w.heap.size,0,none⟩ (.int .i64 ((blk:Int)+128))).setCell ⟨w.heap.size,2,none⟩ (.int .i64 ((bud:Int)+6400))=w3 at *
 obtain ⟨c0,c1,c2⟩:=box3 hB4
 obtain ⟨d0,d1,d2⟩:=box3 hD4
 have f0:w3.frozen? ⟨w.heap.size+1,0,none⟩=false:=by simp [World.frozen?,hD4]
 have f1:w3.frozen? ⟨w.heap.size+1,1,none⟩=false:=by simp [World.frozen?,hD4]
 have f2:w3.frozen? ⟨w.heap.size+1,2,none⟩=false:=by simp [World.frozen?,hD4]
 go_wp2
 have hD5:(((w3.setCell ⟨w.heap.size+1,0,none⟩ (.int .i64 ((blk:Int)+128))).setCell ⟨w.heap.size+1,1,none⟩ (.int .i64 (fan:Int))).setCell ⟨w.heap.size+1,2,none⟩ (.int .i64 ((bud:Int)+6400))).heap[w.heap.size+1]?=some (.cells #[.int .i64 ((blk:Int)+128),.int .i64 (fan:Int),.int .i64 ((bud:Int)+6400)] 51 (0,0)):=by
  rw [heap_setCell_same _ (w.heap.size+1) 2 _ 51 _ (heap_setCell_same _ (w.heap.size+1) 1 _ 51 _ (heap_setCell_same w3 (w.heap.size+1) 0 _ 51 _ hD4))]; simp
 have HT5:Hid (Touch [] w (((w3.setCell ⟨w.heap.size+1,0,none⟩ (.int .i64 ((blk:Int)+128))).setCell ⟨w.heap.size+1,1,none⟩ (.int .i64 (fan:Int))).setCell ⟨w.heap.size+1,2,none⟩ (.int .i64 ((bud:Int)+6400)))):=HT4.out.more ((((Touch.refl [w.heap.size+1] _).setCell (p:=⟨w.heap.size+1,0,none⟩) (by simp) _).setCell (p:=⟨w.heap.size+1,1,none⟩) (by simp) _).setCell (p:=⟨w.heap.size+1,2,none⟩) (by simp) _) (fun i hi=>.inr (by rw [List.mem_singleton.1 hi]; exact Nat.le_succ _))
 clear c0 c1 c2 d0 d1 d2 f0 f1 f2 hB4 hD4 HT4
 generalize ((w3.setCell ⟨w.heap.size+1,0,none⟩ (.int .i64 ((blk:Int)+128))).setCell ⟨w.heap.size+1,1,none⟩ (.int .i64 (fan:Int))).setCell ⟨w.heap.size+1,2,none⟩ (.int .i64 ((bud:Int)+6400))=w4 at *
 obtain ⟨c0,c1,c2⟩:=box3 hD5
 obtain ⟨⟨h1,h2⟩,⟨h3,h4⟩,⟨h5,h6⟩⟩:=H123.out
 exact bodyPost_ret (v:=.agg #[.int .i64 ((blk:Int)+128),.int .i64 (fan:Int),.int .i64 ((bud:Int)+6400)]) (by simp [results,Tryz.results37,go_sem,c0,c1,c2]) rfl ⟨blk+128,fan,bud+6400,by simp,⟨by omega,by omega⟩,⟨h3,h4⟩,⟨by omega,by omega⟩,HT5.out⟩
theorem equal_any (w:World) (va vb:Value) (a b:List V) (ha:RowAt w va a) (hb:RowAt w vb b) (h1:a.length <= 1000) (h2:b.length <= 1000) :
  Calls Tryz.prog 139 #[va,vb] w fun e w'=>∃ r,e=.returned (.bool r) /\ (r=true↔a=b) /\ Touch [] w w':=by
 by_cases hl:a.length=b.length
 ·by_cases h0:1 <= a.length
  ·obtain ⟨ba,fa,ka,rfl,a1,a2,hA⟩:=ha.cells h0
   obtain ⟨bb,fb,kb,rfl,b1,b2,hB⟩:=hb.cells (by omega)
   have HA:Hid (∀ W,Touch [] w W -> ∀ j (hj:j < a.length),W.cell? ⟨ba,fa+j * 3,none⟩=some (.int .i64 a[j].k) /\ W.cell? ⟨ba,fa+j * 3+1,none⟩=some (.int .i64 a[j].n) /\ W.cell? ⟨ba,fa+j * 3+1+1,none⟩=some (.string a[j].s)):=fun W t j hj=>⟨cell_touch (hA j hj).1 t,cell_touch (hA j hj).2.1 t,cell_touch (hA j hj).2.2 t⟩
   have HB:Hid (∀ W,Touch [] w W -> ∀ j (hj:j < b.length),W.cell? ⟨bb,fb+j * 3,none⟩=some (.int .i64 b[j].k) /\ W.cell? ⟨bb,fb+j * 3+1,none⟩=some (.int .i64 b[j].n) /\ W.cell? ⟨bb,fb+j * 3+1+1,none⟩=some (.string b[j].s)):=fun W t j hj=>⟨cell_touch (hB j hj).1 t,cell_touch (hB j hj).2.1 t,cell_touch (hB j hj).2.2 t⟩
   have HL:Hid (a.length=b.length):=hl
   rw [<- hl] at b1 ⊢
   clear ha hb hA hB hl h2
   go_enter Tryz.func139,Tryz.ntmps139
   go_wp2
   go_loopw [13] (fun i wr=>∃ k:Nat,k <= a.length /\ i=.int .i64 (k:Int) /\ a.take k=b.take k /\ Touch [] w wr) (fun i _=>a.length - (intOf i).toNat)
   case atStart=>exact ⟨0,by omega,rfl,by simp,Touch.refl [] _⟩
   case round=>
    obtain ⟨k,hk,rfl,hE,hT⟩:=hrel
    have HT:Hid (Touch [] w wr):=hT
    have HE:Hid (a.take k=b.take k):=hE
    clear hT hE
    by_cases hlt:k < a.length
    ·have hltb:k < b.length:=by have:=HL.out; omega
     obtain ⟨x0,x1,x2⟩:=HA.out wr HT.out k hlt
     obtain ⟨y0,y1,y2⟩:=HB.out wr HT.out k hltb
     have HNE:Hid (a[k]≠b[k] -> a≠b):=fun h e=>by subst e; exact h rfl
     have HEQ:Hid (a[k]=b[k] -> a.take (k+1)=b.take (k+1)):=fun h=>by rw [take_snoc' a k hlt,take_snoc' b k hltb,HE.out,h]
     generalize a[k]=u at *
     generalize b[k]=v at *
     obtain ⟨uk,un,us⟩:=u
     obtain ⟨vk,vn,vs⟩:=v
     simp only at x0 x1 x2 y0 y1 y2
     by_cases e1:uk=vk
     ·by_cases e2:un=vn
      ·by_cases e3:us=vs
       ·have HX:=HEQ.out (by rw [e1,e2,e3])
        have HX2:Hid (a.take (k+1)=b.take (k+1)):=HX
        clear HX HEQ HNE
        subst e1 e2 e3
        go_wp2
        go_big_quiet (fail)
        go_wp2
        go_roundw
        case rel=>exact ⟨k+1,by omega,by go_num,HX2.out,by repeat (first | exact HT.out | refine Touch.drewN ?_ _ | refine Touch.drew ?_)⟩
        case measure=>simp [intOf]; omega
       ·have HX2:Hid (a≠b):=HNE.out (fun e=>e3 (congrArg V.s e))
        have htl:¬ us.toList=vs.toList:=fun h=>e3 (Old.bytes_ext h)
        clear HEQ HNE
        subst e1 e2
        go_wp2
        go_big_quiet (fail)
        go_wp2
        go_ret
        exact ⟨false,rfl,⟨fun h=>(by cases h),fun h=>absurd h HX2.out⟩,by repeat (first | exact HT.out | refine Touch.drewN ?_ _ | refine Touch.drew ?_)⟩
      ·have HX2:Hid (a≠b):=HNE.out (fun e=>e2 (congrArg V.n e))
       clear HEQ HNE
       subst e1
       go_wp2
       go_big_quiet (fail)
       go_wp2
       go_ret
       exact ⟨false,rfl,⟨fun h=>(by cases h),fun h=>absurd h HX2.out⟩,by repeat (first | exact HT.out | refine Touch.drewN ?_ _ | refine Touch.drew ?_)⟩
     ·have HX2:Hid (a≠b):=HNE.out (fun e=>e1 (congrArg V.k e))
      clear HEQ HNE
      go_wp2
      go_big_quiet (fail)
      go_wp2
      go_ret
      exact ⟨false,rfl,⟨fun h=>(by cases h),fun h=>absurd h HX2.out⟩,by repeat (first | exact HT.out | refine Touch.drewN ?_ _ | refine Touch.drew ?_)⟩
    ·have HX2:Hid (a=b):=by
      have h3:=HE.out
      rw [List.take_of_length_le (by omega),List.take_of_length_le (by have:=HL.out; omega)] at h3
      exact h3
     go_wp2
     go_ret
     exact ⟨true,rfl,⟨fun _=>HX2.out,fun _=>rfl⟩,HT.out⟩
  ·obtain rfl:a=[]:=List.length_eq_zero_iff.1 (by omega)
   obtain rfl:b=[]:=List.length_eq_zero_iff.1 (by simpa using hl.symm)
   obtain ⟨ao,ac,rfl,_⟩:=ha
   obtain ⟨bo,bc,rfl,_⟩:=hb
   go_enter Tryz.func139,Tryz.ntmps139
   go_wp2
   refine wp_loop_rounds 1 ?_
   rw [rounds_succ]
   go_wp2
   go_ret
   exact ⟨true,rfl,by simp,Touch.refl [] _⟩
 ·obtain ⟨ao,ac,rfl,_⟩:=ha
  obtain ⟨bo,bc,rfl,_⟩:=hb
  simp only [List.length_map]
  have hl2:¬ (a.length:Int)=(b.length:Int):=by omega
  have HX2:Hid (a≠b):=fun e=>hl (by rw [e])
  go_enter Tryz.func139,Tryz.ntmps139
  go_wp2
  go_ret
  exact ⟨false,rfl,⟨fun h=>(by cases h),fun h=>absurd h HX2.out⟩,Touch.refl [] _⟩
theorem info73:(Tryz.prog.info? 73).map (fun i=>(i.zero,i.size,i.bytes))=some (some (.agg #[.int .i64 0,.bool false,.bool false]),3,16):=by kernel_rfl
def keyOf (c:Int):K:=⟨c,false,false⟩
def KeysPart (W:World) (g k:Nat) (cols:List Int):Prop:=∃ cs,W.heap[g]?=some (.cells cs 73 (0,0)) /\ cs.size=cols.length * 3 /\ ∀ i (h:i < cols.length),cs[i * 3]?=some (.int .i64 (if i < k then cols[i] else 0)) /\ cs[i * 3+1]?=some (.bool false) /\ cs[i * 3+1+1]?=some (.bool false)
theorem make_keys (n:Nat) (hn:n <= 1000):∃ M:Array Value,M.size=n * 3 /\ (∀ i,i < n -> M[i * 3]?=some (.int .i64 0) /\ M[i * 3+1]?=some (.bool false) /\ M[i * 3+1+1]?=some (.bool false)) /\ ∀ W:World,(Instr.makeSlice 74 (.int .i64 (n:Int)) (.int .i64 (n:Int))).run Tryz.prog W=.ok (.slice (some ⟨W.heap.size,0,none⟩) n n) (W.alloc (.cells M 73)):=by
 obtain ⟨i0,hi,hz0,hz1,hz2⟩:=info_parts info73
 refine ⟨madeCells (Value.agg #[.int .i64 0,.bool false,.bool false]).cells (((n:Nat):Int).toNat * i0.size),by rw [size_madeCells,hz1]; simp,fun j hj=>?_,fun W=>?_⟩
 ·rw [hz1]
  have e0:j * 3 % 3=0:=by omega
  have e1:(j * 3+1) % 3=1:=by omega
  have e2:(j * 3+1+1) % 3=2:=by omega
  have l0:j * 3 < n * 3:=by omega
  have l1:j * 3+1 < n * 3:=by omega
  have l2:j * 3+1+1 < n * 3:=by omega
  refine ⟨?_,?_,?_⟩
  ·simp [madeCells,l0,Value.cells,e0]
  ·simp [madeCells,l1,Value.cells,e1]
  ·simp [madeCells,l2,Value.cells,e2]
 ·have h:=run_make (P:=Tryz.prog) W 74 73 i0 (.agg #[.int .i64 0,.bool false,.bool false]) Tryz.underlying74 hi hz0 .i64 .i64 (n:Int) (n:Int) (by omega) (by omega) (by rw [hz2]; omega) (by omega)
  simpa using h
theorem KeysPart.set {W:World} {g k:Nat} {cols:List Int} (h:KeysPart W g k cols) (hk:k < cols.length):KeysPart (W.setCell ⟨g,k * 3,none⟩ (.int .i64 cols[k])) g (k+1) cols:=by
 obtain ⟨cs,h1,h2,h3⟩:=h
 refine ⟨cs.setIfInBounds (k * 3) (.int .i64 cols[k]),heap_setCell_same W g (k * 3) cs 73 _ h1,by simpa using h2,fun i hi=>?_⟩
 obtain ⟨a,b,c⟩:=h3 i hi
 refine ⟨?_,?_,?_⟩
 ·by_cases e:i=k
  ·subst e
   rw [Array.getElem?_setIfInBounds_self_of_lt (by omega),if_pos (by omega)]
  ·rw [Array.getElem?_setIfInBounds_ne (by omega),a]
   by_cases hik:i < k
   ·rw [if_pos hik,if_pos (by omega)]
   ·rw [if_neg hik,if_neg (by omega)]
 ·rw [Array.getElem?_setIfInBounds_ne (by omega),b]
 ·rw [Array.getElem?_setIfInBounds_ne (by omega),c]
theorem KeysPart.cell {W:World} {g k:Nat} {cols:List Int} (h:KeysPart W g k cols) (hk:k < cols.length):W.cell? ⟨g,k * 3,none⟩=some (.int .i64 0) /\ W.frozen? ⟨g,k * 3,none⟩=false:=by
 obtain ⟨cs,h1,h2,h3⟩:=h
 obtain ⟨a,_,_⟩:=h3 k hk
 rw [if_neg (by omega)] at a
 exact ⟨by simp only [World.cell?,h1]; exact a,by simp [World.frozen?,h1]⟩
theorem KeysPart.full {W:World} {g:Nat} {cols:List Int} (h:KeysPart W g cols.length cols) (hc:cols.length <= 1000):KeysAt W (.slice (some ⟨g,0,none⟩) cols.length cols.length) (cols.map keyOf):=by
 obtain ⟨cs,h1,h2,h3⟩:=h
 refine ⟨some ⟨g,0,none⟩,cols.length,by simp,by simp,by unfold maxLen; omega,fun _=>⟨g,0,cs,_,rfl,h1,fun i hi=>?_⟩⟩
 simp only [List.length_map] at hi
 obtain ⟨a,b,c⟩:=h3 i hi
 rw [if_pos hi] at a
 simp only [Nat.zero_add,List.getElem_map]
 exact ⟨a,b,c⟩
theorem byColumns_any (w:World) (v:Value) (cols:List Int) (h:RawAt w v cols) (hc:cols.length <= 1000) :
  Calls Tryz.prog 142 #[v] w fun e w'=>∃ g,e=.returned (.slice (some ⟨g,0,none⟩) cols.length cols.length) /\ KeysAt w' (.slice (some ⟨g,0,none⟩) cols.length cols.length) (cols.map keyOf) /\ Touch [] w w':=by
 obtain ⟨_,_,ao,cap,rfl,hx⟩:=h
 obtain ⟨M,hM1,hM2,hM3⟩:=make_keys cols.length hc
 have HST:Hid (KeysPart (w.alloc (.cells M 73)) w.heap.size 0 cols):=⟨M,heap_alloc_new w _,hM1,fun i hi=>by
  obtain ⟨a,b,c⟩:=hM2 i hi
  exact ⟨by rw [if_neg (by omega)]; exact a,b,c⟩⟩
 have HX:Hid (1 <= cols.length -> ∃ b off,ao=some ⟨b,off,none⟩ /\ ∀ j (h:j < cols.length),w.cell? ⟨b,off+j,none⟩=some (.int .i64 cols[j])):=hx
 have HDONE:Hid (∀ W,KeysPart W w.heap.size cols.length cols -> KeysAt W (.slice (some ⟨w.heap.size,0,none⟩) cols.length cols.length) (cols.map keyOf)):=fun W h=>h.full hc
 clear hx hM1 hM2
 go_enter Tryz.func142,Tryz.ntmps142
 go_wp2
 go_loopw [11] (fun i wr=>∃ k:Nat,k <= cols.length /\ i=.int .i64 (k:Int) /\ KeysPart wr w.heap.size k cols /\ Touch [] w wr) (fun i _=>cols.length - (intOf i).toNat)
 case atStart=>exact ⟨0,by omega,rfl,HST.out,(Touch.refl [] _).alloc _⟩
 case round=>
  obtain ⟨k,hk,rfl,hP,hT⟩:=hrel
  by_cases hlt:k < cols.length
  ·obtain ⟨b,off,rfl,hx⟩:=HX.out (by omega)
   have c0:=cell_touch (hx k hlt) hT
   obtain ⟨c1,f1⟩:=hP.cell hlt
   have HP:Hid (KeysPart (wr.setCell ⟨w.heap.size,k * 3,none⟩ (.int .i64 cols[k])) w.heap.size (k+1) cols):=hP.set hlt
   have HT:Hid (∀ u,Touch [] w (wr.setCell ⟨w.heap.size,k * 3,none⟩ u)):=fun u=>hT.more ((Touch.refl [w.heap.size] _).setCell (p:=⟨w.heap.size,k * 3,none⟩) (by simp) u) (fun i hi=>.inr (by rw [List.mem_singleton.1 hi]; exact Nat.le_refl _))
   clear hx hP hT
   generalize cols[k]=ck at *
   go_wp2
   go_roundw
   case rel=>exact ⟨k+1,by omega,by go_num,HP.out,HT.out _⟩
   case measure=>simp [intOf]; omega
  ·obtain rfl:k=cols.length:=by omega
   have HK:=HDONE.out wr hP
   have HK2:Hid (KeysAt wr (.slice (some ⟨w.heap.size,0,none⟩) cols.length cols.length) (cols.map keyOf)):=HK
   have HT:Hid (Touch [] w wr):=hT
   clear HK hP hT
   go_wp2
   go_ret
   exact ⟨w.heap.size,rfl,HK2.out,HT.out⟩
theorem newTally_count (w:World):Calls Tryz.prog 176 #[.int .i64 1] w fun e w'=>∃ g,e=.returned (.iface 313 (.pointer (some ⟨g,0,none⟩))) /\ w.heap.size <= g /\ w'.heap[g]?=some (.cells #[.int .i64 0] 315 (0,0)) /\ Touch [] w w':=by
 go_enter Tryz.func176,Tryz.ntmps176
 go_wp2
 go_ret
 exact ⟨w.heap.size,rfl,Nat.le_refl _,heap_alloc_new w _,(Touch.refl [] _).alloc _⟩
theorem newTally_total (w:World):Calls Tryz.prog 176 #[.int .i64 4] w fun e w'=>∃ g,e=.returned (.iface 319 (.pointer (some ⟨g,0,none⟩))) /\ w.heap.size <= g /\ w'.heap[g]?=some (.cells #[.int .u64 0,.int .u64 0,.bool false] 321 (0,0)) /\ Touch [] w w':=by
 go_enter Tryz.func176,Tryz.ntmps176
 go_wp2
 go_ret
 exact ⟨w.heap.size,rfl,Nat.le_refl _,heap_alloc_new w _,(Touch.refl [] _).alloc _⟩
theorem countAdd_any (w:World) (g:Nat) (n:Nat) (a b c:Value) (h:w.heap[g]?=some (.cells #[.int .i64 (n:Int)] 315 (0,0))) (hn:n <= 1000000):Calls Tryz.prog 242 #[.pointer (some ⟨g,0,none⟩),.agg #[a,b,c]] w fun e w'=>e=.returned (.tuple #[]) /\ w'.heap[g]?=some (.cells #[.int .i64 ((n+1:Nat):Int)] 315 (0,0)) /\ Touch [g] w w':=by
 have c0:w.cell? ⟨g,0,none⟩=some (.int .i64 (n:Int)):=by simp [World.cell?,h]
 have f0:w.frozen? ⟨g,0,none⟩=false:=by simp [World.frozen?,h]
 have hlt:g < w.heap.size:=(Array.getElem?_eq_some_iff.1 h).1
 have hw:IntKind.i64.wrap ((n:Int)+1)=(n:Int)+1:=wrap_small _ (by omega) (by omega)
 have HH:Hid (w.heap[g]?=some (.cells #[.int .i64 (n:Int)] 315 (0,0))):=h
 clear h
 go_enter Tryz.func242,Tryz.ntmps242
 go_wp2
 first | go_end0 | refine bodyPost_ret (results_none rfl _ _ _) rfl ?_
 refine ⟨rfl,?_,((Touch.refl [g] _).setCell (p:=⟨g,0,none⟩) (by simp) _).alloc _⟩
 rw [Below.heap_alloc _ _ _ (by simpa using hlt),heap_setCell_same w g 0 _ 315 _ HH.out]
 simp
theorem countValue_any (w:World) (g:Nat) (n:Nat) (h:w.heap[g]?=some (.cells #[.int .i64 (n:Int)] 315 (0,0))):Calls Tryz.prog 243 #[.pointer (some ⟨g,0,none⟩)] w fun e w'=>e=.returned (.agg #[.int .i64 1,.int .i64 (n:Int),.string ⟨#[]⟩]) /\ Touch [] w w':=by
 have c0:w.cell? ⟨g,0,none⟩=some (.int .i64 (n:Int)):=by simp [World.cell?,h]
 have hlt:g < w.heap.size:=(Array.getElem?_eq_some_iff.1 h).1
 clear h
 go_enter Tryz.func243,Tryz.ntmps243
 go_wp2
 exact bodyPost_ret (v:=.agg #[.int .i64 1,.int .i64 (n:Int),.string ⟨#[]⟩]) (by simp [results,Tryz.results243,go_sem]) rfl ⟨rfl,(Touch.refl [] _).alloc _⟩
theorem ext_add64 (x y c:Int) (hx:0 <= x) (hy:0 <= y) (hc0:0 <= c) (hc:c <= 1) (hs:x+y+c < 18446744073709551616) (w:World):(callFunc 248 #[.int .u64 x,.int .u64 y,.int .u64 c]).run Tryz.prog w=.ok (.value (.tuple #[.int .u64 (x+y+c),.int .u64 0])) w:=by
 rw [run_callFunc_extern Tryz.func248 (by kernel_rfl) (by kernel_rfl) (by kernel_rfl) (e:=add64Entry) (by kernel_rfl),run_add64 x y c hx hy hc0 hc]
 rw [Int.emod_eq_of_lt (by omega) hs,Int.ediv_eq_zero_of_lt (by omega) hs]
 rfl
theorem signOf_any (w:World) (n:Int) (h0:0 <= n) (h1:n <= 9223372036854775807):Calls Tryz.prog 249 #[.int .u64 n] w fun e w'=>e=.returned (.int .u64 0) /\ w'=w:=by
 go_enter Tryz.func249,Tryz.ntmps249
 go_wp2
 go_ret
 exact ⟨by rw [Int.ediv_eq_zero_of_lt h0 (by omega)]; rfl,rfl⟩
def TotAt (w:World) (g s:Nat) (sm:Bool):Prop:=w.heap[g]?=some (.cells #[.int .u64 0,.int .u64 (s:Int),.bool sm] 321 (0,0))
theorem totalAdd_any (w:World) (g s n:Nat) (sm:Bool) (h:TotAt w g s sm) (hs:s <= 1000000000000) (hn:n <= 1000000000):Calls Tryz.prog 246 #[.pointer (some ⟨g,0,none⟩),.agg #[.int .i64 1,.int .i64 (n:Int),.string ⟨#[]⟩]] w fun e w'=>e=.returned (.tuple #[]) /\ TotAt w' g (s+n) true /\ Touch [g] w w':=by
 unfold TotAt at h
 obtain ⟨c0,c1,c2⟩:=box3 h
 have f0:w.frozen? ⟨g,0,none⟩=false:=by simp [World.frozen?,h]
 have f1:w.frozen? ⟨g,1,none⟩=false:=by simp [World.frozen?,h]
 have f2:w.frozen? ⟨g,2,none⟩=false:=by simp [World.frozen?,h]
 have hlt:g < w.heap.size:=(Array.getElem?_eq_some_iff.1 h).1
 have HS:Hid (∀ W,Calls Tryz.prog 249 #[.int .u64 (n:Int)] W fun e w'=>e=.returned (.int .u64 0) /\ w'=W):=fun W=>signOf_any W n (by omega) (by omega)
 have hx1:=ext_add64 (s:Int) (n:Int) 0 (by omega) (by omega) (by omega) (by omega) (by omega)
 have hx2:=ext_add64 0 0 0 (by omega) (by omega) (by omega) (by omega) (by omega)
 have HH:Hid (w.heap[g]?=some (.cells #[.int .u64 0,.int .u64 (s:Int),.bool sm] 321 (0,0))):=h
 clear h
 go_enter Tryz.func246,Tryz.ntmps246
 go_wp2_with (first | (go_at_call 249; refine (HS.out _).mono ?_; rintro e w1 ⟨rfl,hw1⟩; rw [hw1]; clear hw1 w1))
 have hwu:IntKind.u64.wrap (n:Int)=(n:Int):=by rw [IntKind.wrap_u64]; omega
 go_cut [4] from 5 (fun c wx=>c=.int .u64 0 /\ wx=((w.setCell ⟨g,1,none⟩ (.int .u64 ((s:Int)+(n:Int)))).alloc (.cells #[.int .i64 1,.int .i64 (n:Int),.string ⟨#[]⟩] 85)).drew)
 case first=>
  go_region_with (fail)
  all_goals
   go_wp2
   go_meet
   case rel=>exact ⟨rfl,rfl⟩
 case rest=>
  obtain ⟨rfl,hwc⟩:=hcut
  have hB1:wc.heap[g]?=some (.cells #[.int .u64 0,.int .u64 ((s+n:Nat):Int),.bool sm] 321 (0,0)):=by
   rw [hwc]
   show ((w.setCell ⟨g,1,none⟩ (.int .u64 ((s:Int)+(n:Int)))).alloc (.cells #[.int .i64 1,.int .i64 (n:Int),.string ⟨#[]⟩] 85)).heap[g]?=_
   rw [Below.heap_alloc _ _ _ (by simpa using hlt),heap_setCell_same w g 1 _ 321 _ HH.out]
   simp
  have hV1:wc.heap[w.heap.size]?=some (.cells #[.int .i64 1,.int .i64 (n:Int),.string ⟨#[]⟩] 85 (0,0)):=by
   rw [hwc]
   have e:(w.setCell ⟨g,1,none⟩ (.int .u64 ((s:Int)+(n:Int)))).heap.size=w.heap.size:=by simp
   show ((w.setCell ⟨g,1,none⟩ (.int .u64 ((s:Int)+(n:Int)))).alloc (.cells #[.int .i64 1,.int .i64 (n:Int),.string ⟨#[]⟩] 85)).heap[w.heap.size]?=_
   rw [<- e]
   exact heap_alloc_new _ _
  have HT1:Hid (Touch [g] w wc):=by
   show Touch _ _ _
   rw [hwc]
   exact ((((Touch.refl [g] _).setCell (p:=⟨g,1,none⟩) (by simp) _).alloc _).drew)
  clear hwc c0 c1 c2 f0 f1 f2
  obtain ⟨c0,c1,c2⟩:=box3 hB1
  obtain ⟨d0,d1,d2⟩:=box3 hV1
  have f0:wc.frozen? ⟨g,0,none⟩=false:=by simp [World.frozen?,hB1]
  have f2:wc.frozen? ⟨g,2,none⟩=false:=by simp [World.frozen?,hB1]
  have HB1:Hid (wc.heap[g]?=some (.cells #[.int .u64 0,.int .u64 ((s+n:Nat):Int),.bool sm] 321 (0,0))):=hB1
  clear hB1 hV1 HH
  go_wp2
  go_region_with (first | (go_at_call 249; refine (HS.out _).mono ?_; rintro e w1 ⟨rfl,hw1⟩; rw [hw1]; clear hw1 w1))
  all_goals
   go_wp2
   first | go_end0 | refine bodyPost_ret (results_none rfl _ _ _) rfl ?_
   refine ⟨rfl,?_,?_⟩
   ·show ((wc.setCell ⟨g,0,none⟩ (.int .u64 0)).setCell ⟨g,2,none⟩ (.bool true)).heap[g]?=_
    rw [heap_setCell_same _ g 2 _ 321 _ (heap_setCell_same wc g 0 _ 321 _ HB1.out)]
    simp
   ·repeat (first | exact HT1.out | refine Touch.drew ?_ | refine Touch.setCell ?_ (by simp) _)
theorem totalValue_any (w:World) (g s:Nat) (h:TotAt w g s true) (hs:s <= 1000000000000):Calls Tryz.prog 247 #[.pointer (some ⟨g,0,none⟩)] w fun e w'=>e=.returned (.agg #[.int .i64 1,.int .i64 (s:Int),.string ⟨#[]⟩]) /\ Touch [] w w':=by
 unfold TotAt at h
 obtain ⟨c0,c1,c2⟩:=box3 h
 have hlt:g < w.heap.size:=(Array.getElem?_eq_some_iff.1 h).1
 have HS:Hid (∀ W,Calls Tryz.prog 249 #[.int .u64 (s:Int)] W fun e w'=>e=.returned (.int .u64 0) /\ w'=W):=fun W=>signOf_any W s (by omega) (by omega)
 clear h
 go_enter Tryz.func247,Tryz.ntmps247
 go_wp2_with (first | (go_at_call 249; refine (HS.out _).mono ?_; rintro e w1 ⟨rfl,hw1⟩; rw [hw1]; clear hw1 w1))
 go_big_quiet ((go_at_call 249; refine (HS.out _).mono ?_; rintro e w1 ⟨rfl,rfl⟩; exact ⟨rfl,_,rfl⟩))
 go_wp2
 refine bodyPost_ret (v:=.agg #[.int .i64 1,.int .i64 (s:Int),.string ⟨#[]⟩]) (by simp [results,Tryz.results247,go_sem]) rfl ⟨rfl,?_⟩
 exact (((Touch.refl [] w).alloc _).drewN _).more ((((Touch.refl [w.heap.size] _).setCell (p:=⟨w.heap.size,0,none⟩) (by simp) _).setCell (p:=⟨w.heap.size,1,none⟩) (by simp) _).setCell (p:=⟨w.heap.size,2,none⟩) (by simp) _) (fun i hi=>.inr (by rw [List.mem_singleton.1 hi]; exact Nat.le_refl _))
def VOwn (w:World) (v:Value) (l:List V):Prop:=w.ownsRow 0 85 3 v l.length (flat3 (l.map V.t))
theorem VOwn.keep {w w':World} {v:Value} {l:List V} (h:VOwn w v l) (k:KeepTag 85 w w'):VOwn w' v l:=by
 obtain ⟨h1,h2⟩:=h
 refine ⟨h1,?_⟩
 rcases h2 with h2 | ⟨g,cap,cur,e,hb,hh,rest⟩
 ·exact .inl h2
 ·exact .inr ⟨g,cap,cur,e,hb,k _ _ _ hh,rest⟩
theorem VOwn.slice {w:World} {v:Value} {l:List V} (h:VOwn w v l):∃ o n c,v=.slice o n c:=by
 rcases h.2 with ⟨rfl,_⟩ | ⟨g,cap,cur,rfl,_⟩
 ·exact ⟨_,_,_,rfl⟩
 ·exact ⟨_,_,_,rfl⟩
theorem VOwn.block {w:World} {v:Value} {l:List V} (h:VOwn w v l):∀ k,v.ownBlock=some k -> ∃ cs,w.heap[k]?=some (.cells cs 85 (0,0)):=fun k hk=>by
 rcases h.2 with ⟨rfl,_⟩ | ⟨g,cap,cur,rfl,_,hh,_⟩
 ·simp [Value.ownBlock] at hk
 ·simp [Value.ownBlock] at hk
  subst hk
  exact ⟨_,hh⟩
theorem VOwn.row {w:World} {v:Value} {l:List V} (h:VOwn w v l):RowAt w v l:=by
 obtain ⟨h1,h2⟩:=h
 rcases h2 with ⟨rfl,e⟩ | ⟨g,cap,cur,rfl,_,hh,hc,hm,hs,ht⟩
 ·obtain rfl:l=[]:=List.eq_nil_of_length_eq_zero e
  exact ⟨none,0,rfl,Nat.le_refl _,by unfold maxLen; omega,fun h=>by simp at h⟩
 ·refine ⟨some ⟨g,0,none⟩,cap,by simp,by simpa using hc,hm,fun hn=>⟨g,0,cur,(0,0),rfl,hh,fun i hi=>?_⟩⟩
  simp only [List.length_map] at hi
  have key:∀ r,r < 3 -> cur[0+i * 3+r]?=(T3.list ((l.map V.t)[i]'(by simpa using hi)))[r]?:=fun r hr=>by
   have e:=flat3_at (l.map V.t) i r (by simpa using hi) hr
   rw [<- ht] at e
   rw [List.getElem?_take_of_lt (by omega)] at e
   rw [<- e]
   simp
  have k0:=key 0 (by omega)
  have k1:=key 1 (by omega)
  have k2:=key 2 (by omega)
  simp only [T3.list] at k0 k1 k2
  exact ⟨by simpa using k0,by simpa using k1,by simpa [Nat.add_assoc] using k2⟩
theorem flat3_snoc (l:List T3) (x:T3):flat3 (l++[x])=flat3 l++x.list:=by
 simp [flat3]
theorem step_val {ops:Array Oper} {o:Oper} {a:Act} {w:World} {K:Act -> World -> Prop} {Q:Exit -> Act -> World -> Prop} {E:Prop} (hgd:o.guard=none) (s x:Operand)
  (ho:o.op=.call { callee:=.builtin .append,args:=#[s,x],argTypes:=#[83,83] }) (v:Value) (l:List V) (hs:a.eval s=v) (hown:VOwn w v l)
  (b:Nat) (y:V) (c:Nat) (hx:a.eval x=.slice (some ⟨b,0,none⟩) 1 c) (hnews:w.heap[b]?=some (.cells #[.int .i64 y.k,.int .i64 y.n,.string y.s] 85 (0,0))) (hlen:l.length <= 1000000)
  (h:∀ g cap w',VOwn w' (.slice (some ⟨g,0,none⟩) (l.length+1) cap) (l++[y]) -> w.grownBy w' v.ownBlock -> (v.ownBlock=some g \/ g=w.heap.size) -> g < w'.heap.size -> K (a.put o.dst (.slice (some ⟨g,0,none⟩) (l.length+1) cap)) w') :
  if Region.wanted o (yielded ops a.tmps)=true then Oper.wp Tryz.prog o a w K Q else E:=by
 obtain ⟨i0,hi,hz0,hz1,hz2⟩:=info_parts info85
 refine step_append_lies w hgd s x 83 ho 0 85 i0 (.agg #[.int .i64 0,.int .i64 0,.string ⟨#[]⟩]) 3 32 Tryz.underlying83 hi hz0 hz1 hz2 rfl (by decide) v _ _ hs hown ⟨b,0,none⟩ 1 c [.int .i64 y.k,.int .i64 y.n,.string y.s] hx (by simp) (World.news_of_block hnews) (fun u hu=>?_) (by decide) ?_ ?_ (Nat.zero_le _) _ rfl ?_
 ·simp at hu
  rcases hu with rfl | rfl | rfl<;>rfl
 ·unfold maxLen; omega
 ·omega
 ·intro g cap w' h1 h2 h3 h4
  refine h g cap w' ?_ h2 h3 h4
  unfold VOwn
  rw [List.length_append,List.length_singleton,List.map_append,List.map_singleton,flat3_snoc]
  exact h1
section
variable {P:Program} {md:Region.Mode} {ops:Array Oper} {o:Oper} {Q:Exit -> Act -> World -> Prop}
structure LastTo (md:Region.Mode) (ops:Array Oper) (o:Oper):Prop where
 waits:∀ j,j < ops.size -> (∃ e∈o.after,e.on=j /\ Region.binds md e=true) \/ ∃ (m:Nat) (p:Oper),ops[m]?=some p /\ (∃ e∈p.after,e.on=j /\ Region.binds md e=true) /\ ∃ e∈o.after,e.on=m /\ Region.binds md e=true
 inside:∀ e∈o.after,e.on < ops.size
 down:∀ (j:Nat) (p:Oper),ops[j]?=some p -> ∀ e∈p.after,e.on < j
 free:∀ (j:Nat) (p:Oper),ops[j]?=some p -> p.guard=none
 guard:o.guard=none
def DoneSo (md:Region.Mode) (ops:Array Oper) (l:Array Bool):Prop:=∀ (m:Nat) (p:Oper),ops[m]?=some p -> l.getD m false=true -> ∀ e∈p.after,Region.binds md e=true -> l.getD e.on false=true
theorem DoneSo.none (n:Nat):DoneSo md ops (Array.replicate n false):=fun m p _ h=>by
 rw [Array.getD_eq_getD_getElem?,Array.getElem?_replicate] at h
 split at h<;>simp at h
theorem getD_set_true (l:Array Bool) (i k:Nat) (h:l.getD k false=true):(l.setIfInBounds i true).getD k false=true:=by
 rw [Array.getD_eq_getD_getElem?] at h ⊢
 rw [Array.getElem?_setIfInBounds]
 by_cases e:i=k
 ·subst e
  rw [if_pos rfl]
  split
  ·rfl
  ·rename_i hlt
   rw [Array.getElem?_eq_none (by omega)] at h
   simp at h
 ·rw [if_neg e]; exact h
theorem DoneSo.set {l:Array Bool} {i:Nat} (h:DoneSo md ops l) (hi:i∈Region.ready md ops l):DoneSo md ops (l.setIfInBounds i true):=fun m p hp hm e he hb=>by
 obtain ⟨_,q,hq,ha⟩:=mem_ready.1 hi
 refine getD_set_true l i e.on ?_
 by_cases e':i=m
 ·subst e'
  rw [hp] at hq
  cases hq
  exact ha e he hb
 ·refine h m p hp ?_ e he hb
  rw [Array.getD_eq_getD_getElem?] at hm ⊢
  rw [Array.getElem?_setIfInBounds,if_neg e'] at hm
  exact hm
theorem listed_all2 (h:LastTo md ops o) (l:Array Bool) (hl:l.size=ops.size) (hr:Region.ready md ops l=[]):∀ j,j < ops.size -> l.getD j false=true:=by
 intro j
 induction j using Nat.strongRecOn with
 | _ j ih=>
  intro hj
  cases hc:l.getD j false with
  | true=>rfl
  | false=>
   exfalso
   have:j∈Region.ready md ops l:=by
    refine mem_ready.2 ⟨?_,ops[j],Array.getElem?_eq_getElem hj,fun e he _=>ih e.on (h.down j _ (Array.getElem?_eq_getElem hj) e he) (by have:=h.down j _ (Array.getElem?_eq_getElem hj) e he; omega)⟩
    rw [Array.getD_eq_getD_getElem?,Array.getElem?_eq_getElem (by omega)] at hc ⊢
    exact hc
   rw [hr] at this
   simp at this
theorem ready_last2 (h:LastTo md ops o) (l:Array Bool) (hl:l.size=ops.size) (hd:DoneSo md ops l):ops.size∈Region.ready md (ops.push o) (l.push false)↔Region.ready md ops l=[]:=by
 constructor
 ·intro hm
  obtain ⟨_,p,hp,ha⟩:=mem_ready.1 hm
  simp at hp
  subst hp
  refine List.eq_nil_iff_forall_not_mem.2 fun j hj=>?_
  obtain ⟨h1,q,hq,_⟩:=mem_ready.1 hj
  have hj':=(Array.getElem?_eq_some_iff.1 hq).1
  have this:l.getD j false=true:=by
   rcases h.waits j hj' with ⟨e,he,rfl,hb⟩ | ⟨m,p,hp,⟨e,he,rfl,hb⟩,⟨e2,he2,rfl,hb2⟩⟩
   ·have:=ha e he hb
    rw [getD_push_false] at this
    exact this
   ·have:=ha e2 he2 hb2
    rw [getD_push_false] at this
    exact hd _ p hp this e he hb
  rw [Array.getD_eq_getD_getElem?,Array.getElem?_eq_getElem (by omega)] at h1 this
  simp only [Option.getD_some] at h1 this
  rw [h1] at this
  cases this
 ·intro hr
  refine mem_ready.2 ⟨?_,o,by simp,fun e he _=>?_⟩
  ·rw [<- hl]
   simp
  ·rw [getD_push_false]
   exact listed_all2 h l hl hr e.on (h.inside e he)
theorem wpAny_push2 (h:LastTo md ops o):∀ (fuel:Nat) (l:Array Bool) (a:Act) (w:World),l.size=ops.size -> DoneSo md ops l -> wpAny P md ops (Behind P o Q) fuel l a w -> wpAny P md (ops.push o) Q (fuel+1) (l.push false) a w:=by
 have hstop:∀ (fuel:Nat) (l:Array Bool) (a:Act) (w:World),l.size=ops.size -> DoneSo md ops l -> Region.ready md ops l=[] -> Behind P o Q .normal a w -> wpAny P md (ops.push o) Q (fuel+1) (l.push false) a w:=by
  intro fuel l a w hl hd hr hq
  refine ⟨fun h0=>?_,fun i hi=>?_⟩
  ·have:=(ready_last2 h l hl hd).2 hr
   rw [h0] at this
   simp at this
  ·have hi2:i=ops.size:=by
    obtain ⟨_,p,hp,_⟩:=mem_ready.1 hi
    have hlt:=(Array.getElem?_eq_some_iff.1 hp).1
    rw [Array.size_push] at hlt
    rcases Nat.lt_or_ge i ops.size with hc | hc
    ·have:=(ready_low (o:=o) l hl i hc).1 hi
     rw [hr] at this
     simp at this
    ·omega
   subst hi2
   unfold wpOp
   simp only [Array.getElem?_push_size]
   rw [if_pos (by unfold Region.wanted; rw [h.guard])]
   refine .inl (Oper.wp_mono (fun a w hq=>wpAny_done ?_ hq _) hq)
   refine List.eq_nil_iff_forall_not_mem.2 fun j hj=>?_
   obtain ⟨h1,p,hp,_⟩:=mem_ready.1 hj
   have hlt:=(Array.getElem?_eq_some_iff.1 hp).1
   rw [Array.size_push] at hlt
   rcases Nat.lt_or_ge j ops.size with hc | hc
   ·have:=listed_all2 h l hl hr j hc
    rw [getD_set_ne true (by omega),getD_push_true l j (by omega)] at h1
    rw [Array.getD_eq_getD_getElem?,Array.getElem?_eq_getElem (by omega)] at h1 this
    simp only [Option.getD_some] at h1 this
    rw [h1] at this
    cases this
   ·have:j=ops.size:=by omega
    subst this
    rw [<- hl] at h1
    simp at h1
 intro fuel
 induction fuel with
 | zero=>
  intro l a w hl hd hw
  exact hstop 0 l a w hl hd hw.1 hw.2
 | succ fuel ih=>
  intro l a w hl hd hw
  by_cases hr:Region.ready md ops l=[]
  ·exact hstop _ l a w hl hd hr (hw.1 hr)
  ·refine ⟨fun h0=>?_,fun i hi=>?_⟩
   ·exfalso
    refine hr (List.eq_nil_iff_forall_not_mem.2 fun j hj=>?_)
    have hj':j < ops.size:=by
     obtain ⟨_,p,hp,_⟩:=mem_ready.1 hj
     exact (Array.getElem?_eq_some_iff.1 hp).1
    have:=(ready_low (o:=o) l hl j hj').2 hj
    rw [h0] at this
    simp at this
   ·have hi':i < ops.size:=by
     obtain ⟨_,p,hp,_⟩:=mem_ready.1 hi
     have hlt:=(Array.getElem?_eq_some_iff.1 hp).1
     rw [Array.size_push] at hlt
     rcases Nat.lt_or_ge i ops.size with hc | hc
     ·exact hc
     ·have:i=ops.size:=by omega
      subst this
      exact absurd ((ready_last2 h l hl hd).1 hi) hr
    have hm:=hw.2 i ((ready_low l hl i hi').1 hi)
    have hset:(l.push false).setIfInBounds i true=(l.setIfInBounds i true).push false:=by
     apply Array.ext_getElem?
     intro k
     rw [Array.getElem?_setIfInBounds,Array.getElem?_push,Array.getElem?_push,Array.getElem?_setIfInBounds,Array.size_setIfInBounds,Array.size_push]
     by_cases e:i=k
     ·subst e
      rw [if_pos rfl,if_pos (by omega),if_neg (by omega),if_pos rfl,if_pos (by omega)]
     ·rw [if_neg e,if_neg e]
    unfold wpOp at hm ⊢
    simp only [Array.getElem?_push,if_neg (show i≠ops.size by omega),Array.getElem?_eq_getElem hi'] at hm ⊢
    have hg:=h.free i _ (Array.getElem?_eq_getElem hi')
    rw [if_pos (by unfold Region.wanted; rw [hg])] at hm ⊢
    rw [hset]
    rcases hm with hm | ⟨h1,h2⟩
    ·exact .inl (operWp_back (Oper.wp_mono (fun a w hk=>ih _ a w (by simpa using hl) (hd.set ((ready_low l hl i hi').1 hi)) hk) hm))
    ·exact .inr ⟨h1,behind_out h2⟩
theorem wp_region_last2 {id:Nat} {full:Array Oper} {a:Act} {w:World} (S:World -> Prop) (hm:P.follows .mixedOrders=true) (hb:full.back?=some o) (h:LastTo .any full.pop o) (hS:S w.drew)
  (hw:S w.drew -> wpAnyH P .any full.pop (Behind P o Q) S full.pop.size (Array.replicate full.pop.size false) a w.drew):(Code.region id full true).wp P Q a w:=by
 have hf:full.pop.push o=full:=by
  obtain ⟨ys,rfl⟩:=Array.back?_eq_some_iff.1 hb
  simp
 refine wp_region_any hm ?_
 have:=wpAny_push2 h _ _ _ _ (by simp) (DoneSo.none _) (wpAny_of_held _ _ _ _ (hw hS))
 rw [hf] at this
 have hs:full.size=full.pop.size+1:=by rw [<- Array.size_push (v:=o),hf]
 rw [hs,Array.replicate_succ]
 exact this
end
def lastTo (ops:Array Oper) (o:Oper):Bool:=
 (List.range ops.size).all (fun j=>o.after.any (fun e=>e.on == j && Region.binds .any e) || (List.range ops.size).any (fun m=>(match ops[m]? with | some p=>p.after.any (fun e=>e.on == j && Region.binds .any e) | none=>false) && o.after.any (fun e=>e.on == m && Region.binds .any e))) && o.after.all (fun e=>decide (e.on < ops.size)) &&
  (List.range ops.size).all (fun j=>match ops[j]? with | some p=>p.after.all (fun e=>decide (e.on < j)) && p.guard.isNone | none=>true) && o.guard.isNone
theorem lastTo_spec {ops:Array Oper} {o:Oper} (h:lastTo ops o=true):LastTo .any ops o:=by
 unfold lastTo at h
 simp only [Bool.and_eq_true,Bool.or_eq_true,List.all_eq_true,List.any_eq_true,List.mem_range,Array.any_eq_true,Array.all_eq_true,decide_eq_true_eq] at h
 obtain ⟨⟨⟨h1,h2⟩,h3⟩,h4⟩:=h
 refine ⟨fun j hj=>?_,fun e he=>?_,fun j p hp e he=>?_,fun j p hp=>?_,by simpa using h4⟩
 ·rcases h1 j hj with ⟨i,hi,he⟩ | ⟨m,hm,he1,⟨i2,hi2,he2⟩⟩
  ·exact .inl ⟨o.after[i],Array.getElem_mem hi,by simpa using he.1,by simpa using he.2⟩
  ·rw [Array.getElem?_eq_getElem hm] at he1
   simp only [Array.any_eq_true,Bool.and_eq_true] at he1
   obtain ⟨i,hi,he⟩:=he1
   exact .inr ⟨m,ops[m],Array.getElem?_eq_getElem hm,⟨ops[m].after[i],Array.getElem_mem hi,by simpa using he.1,by simpa using he.2⟩,⟨o.after[i2],Array.getElem_mem hi2,by simpa using he2.1,by simpa using he2.2⟩⟩
 ·obtain ⟨i,hi,rfl⟩:=Array.getElem_of_mem he
  exact h2 i hi
 ·have:=h3 j (Array.getElem?_eq_some_iff.1 hp).1
  rw [hp] at this
  simp only [Bool.and_eq_true,Array.all_eq_true,decide_eq_true_eq] at this
  obtain ⟨i,hi,rfl⟩:=Array.getElem_of_mem he
  exact this.1 i hi
 ·have:=h3 j (Array.getElem?_eq_some_iff.1 hp).1
  rw [hp] at this
  simp only [Bool.and_eq_true] at this
  simpa using this.2
theorem info275:(Tryz.prog.info? 275).map (fun i=>(i.zero,i.size,i.bytes))=some (some .nilIface,1,16):=by kernel_rfl
def tyOf (op:Int):TypeId:=if op=1 then 313 else 319
def talV (op:Int) (g:Nat):Value:=.iface (tyOf op) (.pointer (some ⟨g,0,none⟩))
def TalAt (w:World) (g:Nat) (op:Int) (l:List Nat):Prop:=(op=1 /\ w.heap[g]?=some (.cells #[.int .i64 (l.length:Int)] 315 (0,0))) \/ (op=4 /\ TotAt w g l.sum (!l.isEmpty))
theorem TalAt.keep {w w':World} {g:Nat} {op:Int} {l:List Nat} (h:TalAt w g op l) (e:w'.heap[g]?=w.heap[g]?):TalAt w' g op l:=by
 rcases h with ⟨h1,h2⟩ | ⟨h1,h2⟩
 ·exact .inl ⟨h1,e.trans h2⟩
 ·exact .inr ⟨h1,e.trans h2⟩
theorem TalAt.lt {w:World} {g:Nat} {op:Int} {l:List Nat} (h:TalAt w g op l):g < w.heap.size:=by
 rcases h with ⟨_,h2⟩ | ⟨_,h2⟩
 ·exact (Array.getElem?_eq_some_iff.1 h2).1
 ·exact (Array.getElem?_eq_some_iff.1 h2).1
theorem newTally_any (w:World) (op:Int) (h:op=1 \/ op=4):Calls Tryz.prog 176 #[.int .i64 op] w fun e w'=>∃ g,e=.returned (.iface (tyOf op) (.pointer (some ⟨g,0,none⟩))) /\ w.heap.size <= g /\ TalAt w' g op [] /\ Touch [] w w':=by
 rcases h with rfl | rfl
 ·refine (newTally_count w).mono ?_
  rintro e w' ⟨g,rfl,h1,h2,h3⟩
  exact ⟨g,rfl,h1,.inl ⟨rfl,h2⟩,h3⟩
 ·refine (newTally_total w).mono ?_
  rintro e w' ⟨g,rfl,h1,h2,h3⟩
  exact ⟨g,rfl,h1,.inr ⟨rfl,h2⟩,h3⟩
def TOwn (w:World) (v:Value) (ts:List Value):Prop:=w.ownsRow 0 275 1 v ts.length ts
theorem TOwn.keep {w w':World} {v:Value} {ts:List Value} (h:TOwn w v ts) (k:KeepTag 275 w w'):TOwn w' v ts:=by
 obtain ⟨h1,h2⟩:=h
 refine ⟨h1,?_⟩
 rcases h2 with h2 | ⟨g,cap,cur,e,hb,hh,rest⟩
 ·exact .inl h2
 ·exact .inr ⟨g,cap,cur,e,hb,k _ _ _ hh,rest⟩
theorem TOwn.slice {w:World} {v:Value} {ts:List Value} (h:TOwn w v ts):∃ o n c,v=.slice o n c:=by
 rcases h.2 with ⟨rfl,_⟩ | ⟨g,cap,cur,rfl,_⟩
 ·exact ⟨_,_,_,rfl⟩
 ·exact ⟨_,_,_,rfl⟩
theorem TOwn.block {w:World} {v:Value} {ts:List Value} (h:TOwn w v ts):∀ k,v.ownBlock=some k -> ∃ cs,w.heap[k]?=some (.cells cs 275 (0,0)):=fun k hk=>by
 rcases h.2 with ⟨rfl,_⟩ | ⟨g,cap,cur,rfl,_,hh,_⟩
 ·simp [Value.ownBlock] at hk
 ·simp [Value.ownBlock] at hk
  subst hk
  exact ⟨_,hh⟩
theorem TOwn.cell {w:World} {v:Value} {ts:List Value} (h:TOwn w v ts) (h1:1 <= ts.length):∃ g cap,v=.slice (some ⟨g,0,none⟩) ts.length cap /\ ts.length <= cap /\ cap <= maxLen /\ ∀ i (hi:i < ts.length),w.cell? ⟨g,i,none⟩=some ts[i]:=by
 rcases h.2 with ⟨_,e⟩ | ⟨g,cap,cur,rfl,_,hh,hc,hm,hs,ht⟩
 ·omega
 ·refine ⟨g,cap,rfl,hc,hm,fun i hi=>?_⟩
  have h5:(cur.toList.take (ts.length * 1))[i]?=some ts[i]:=by rw [ht]; exact List.getElem?_eq_getElem hi
  rw [List.getElem?_take_of_lt (by omega)] at h5
  simp only [World.cell?,hh]
  simpa using h5
theorem step_tal {ops:Array Oper} {o:Oper} {a:Act} {w:World} {K:Act -> World -> Prop} {Q:Exit -> Act -> World -> Prop} {E:Prop} (hgd:o.guard=none) (s x:Operand)
  (ho:o.op=.call { callee:=.builtin .append,args:=#[s,x],argTypes:=#[271,271] }) (v:Value) (ts:List Value) (hs:a.eval s=v) (hown:TOwn w v ts)
  (b:Nat) (y:Value) (c:Nat) (hx:a.eval x=.slice (some ⟨b,0,none⟩) 1 c) (hnews:w.heap[b]?=some (.cells #[y] 275 (0,0))) (hy:y.oneCell'=true) (hlen:ts.length <= 1000000)
  (h:∀ g cap w',TOwn w' (.slice (some ⟨g,0,none⟩) (ts.length+1) cap) (ts++[y]) -> w.grownBy w' v.ownBlock -> (v.ownBlock=some g \/ g=w.heap.size) -> g < w'.heap.size -> K (a.put o.dst (.slice (some ⟨g,0,none⟩) (ts.length+1) cap)) w') :
  if Region.wanted o (yielded ops a.tmps)=true then Oper.wp Tryz.prog o a w K Q else E:=by
 obtain ⟨i0,hi,hz0,hz1,hz2⟩:=info_parts info275
 refine step_append_lies w hgd s x 271 ho 0 275 i0 .nilIface 1 16 Tryz.underlying271 hi hz0 hz1 hz2 rfl (by decide) v _ _ hs hown ⟨b,0,none⟩ 1 c [y] hx (by simp) (World.news_of_block hnews) (by simpa using hy) (by decide) ?_ ?_ (Nat.zero_le _) _ rfl ?_
 ·unfold maxLen; omega
 ·omega
 ·intro g cap w' h1 h2 h3 h4
  refine h g cap w' ?_ h2 h3 h4
  unfold TOwn
  rw [List.length_append,List.length_singleton]
  exact h1
def talsV (ops:List Int) (gs:List Nat):List Value:=List.zipWith talV ops gs
structure PartAt (w W:World) (p:Nat) (cv sv tv vv:Value) (vals:List V) (ops:List Int) (gs:List Nat) (Ls:List (List Nat)):Prop where
 box:W.heap[p]?=some (.cells #[cv,sv,tv,vv] 273 (0,0))
 vals:VOwn W vv vals
 tals:TOwn W tv (talsV ops gs)
 glen:gs.length=ops.length
 llen:Ls.length=ops.length
 tal:∀ i (_:i < ops.length) (_:i < gs.length) (_:i < Ls.length),TalAt W gs[i] ops[i] Ls[i]
 nodup:gs.Nodup
 newp:w.heap.size <= p
 newg:∀ g∈gs,w.heap.size <= g
 newv:∀ b,vv.ownBlock=some b -> w.heap.size <= b
 newt:∀ b,tv.ownBlock=some b -> w.heap.size <= b
 touch:Touch [] w W
theorem PartAt.quiet {w W W':World} {p:Nat} {cv sv tv vv:Value} {vals:List V} {ops:List Int} {gs:List Nat} {Ls:List (List Nat)} (h:PartAt w W p cv sv tv vv vals ops gs Ls) (t:Touch [] W W'):PartAt w W' p cv sv tv vv vals ops gs Ls:=
 { h with box:=t.tag0 _ _ _ _ h.box,vals:=h.vals.keep (t.tag0 _),tals:=h.tals.keep (t.tag0 _),tal:=fun i a b c=>(h.tal i a b c).keep (t.block _ (h.tal i a b c).lt (by simp)),touch:=h.touch.trans t }
theorem talsV_len {ops:List Int} {gs:List Nat} (h:gs.length=ops.length):(talsV ops gs).length=ops.length:=by
 unfold talsV
 rw [List.length_zipWith]
 omega
theorem talsV_snoc {ops:List Int} {gs:List Nat} (h:gs.length=ops.length) (op:Int) (g:Nat):talsV (ops++[op]) (gs++[g])=talsV ops gs++[talV op g]:=by
 unfold talsV
 rw [List.zipWith_append h.symm]
 rfl
theorem PartAt.grown {w W w2:World} {p:Nat} {cv sv tv vv:Value} {vals:List V} {ops:List Int} {gs:List Nat} {Ls:List (List Nat)} (h:PartAt w W p cv sv tv vv vals ops gs Ls) (t2:Touch tv.ownBlock.toList W w2):(∀ t,(275:TypeId)≠t -> KeepTag t W w2) /\ Touch [] w w2:=by
 refine ⟨fun t ht=>t2.tag (fun b hb cs f e=>?_),⟨t2.os.trans h.touch.os,t2.tape.trans h.touch.tape,t2.output.trans h.touch.output,Nat.le_trans h.touch.size t2.size,fun b hb _=>?_⟩⟩
 ·obtain ⟨cs',h'⟩:=h.tals.block b (by simpa using hb)
  rw [h'] at e
  simp only [Option.some.injEq,Obj.cells.injEq] at e
  exact ht e.2.1
 ·rw [t2.block b (Nat.lt_of_lt_of_le hb h.touch.size) (fun e=>?_)]
  ·exact h.touch.block b hb (by simp)
  ·have:=h.newt b (by simpa using e)
   omega
theorem TalAt.keepTag {w w':World} {g:Nat} {op:Int} {l:List Nat} (h:TalAt w g op l) (k:KeepTag 315 w w') (k2:KeepTag 321 w w'):TalAt w' g op l:=by
 rcases h with ⟨h1,h2⟩ | ⟨h1,h2⟩
 ·exact .inl ⟨h1,k _ _ _ h2⟩
 ·exact .inr ⟨h1,k2 _ _ _ h2⟩
theorem PartAt.push {w W w2:World} {p g gt cap n:Nat} {cv sv tv vv:Value} {vals:List V} {ops:List Int} {gs:List Nat} {Ls:List (List Nat)} {op:Int} (h:PartAt w W p cv sv tv vv vals ops gs Ls) (hg:TalAt W gt op []) (hnew:w.heap.size <= gt) (hno:gt∉gs) (hO:TOwn w2 (.slice (some ⟨g,0,none⟩) n cap) (talsV ops gs++[talV op gt])) (t2:Touch tv.ownBlock.toList W w2) (hgg:tv.ownBlock=some g \/ g=W.heap.size) :
  PartAt w (w2.setCell ⟨p,2,none⟩ (.slice (some ⟨g,0,none⟩) n cap)) p cv sv (.slice (some ⟨g,0,none⟩) n cap) vv vals (ops++[op]) (gs++[gt]) (Ls++[[]]):=by
 obtain ⟨k2,tw⟩:=h.grown t2
 have hB:=k2 273 (by decide) _ _ _ h.box
 have t3:Touch [p] w2 (w2.setCell ⟨p,2,none⟩ (.slice (some ⟨g,0,none⟩) n cap)):=(Touch.refl [p] w2).setCell (p:=⟨p,2,none⟩) (by simp) _
 have kt:∀ t,(273:TypeId)≠t -> KeepTag t w2 (w2.setCell ⟨p,2,none⟩ (.slice (some ⟨g,0,none⟩) n cap)):=fun t ht=>t3.tag (notag_of hB ht)
 refine ⟨?_,h.vals.keep ((k2 85 (by decide)).trans (kt 85 (by decide))),?_,by simp [h.glen],by simp [h.llen],fun i a b c=>?_,?_,h.newp,fun x hx=>?_,h.newv,fun b hb=>?_,tw.more t3 (fun i hi=>.inr (by rw [List.mem_singleton.1 hi]; exact h.newp))⟩
 ·rw [heap_setCell_same w2 p 2 _ 273 _ hB]; simp
 ·rw [talsV_snoc h.glen]
  exact hO.keep (kt 275 (by decide))
 ·have hgl:=h.glen
  have hll:=h.llen
  by_cases hi:i < ops.length
  ·have:=(h.tal i hi (by omega) (by omega)).keepTag ((k2 315 (by decide)).trans (kt 315 (by decide))) ((k2 321 (by decide)).trans (kt 321 (by decide)))
   rw [List.getElem_append_left (by omega),List.getElem_append_left hi,List.getElem_append_left (by omega)]
   exact this
  ·simp only [List.length_append,List.length_singleton] at a
   obtain rfl:i=ops.length:=by omega
   have:=hg.keepTag ((k2 315 (by decide)).trans (kt 315 (by decide))) ((k2 321 (by decide)).trans (kt 321 (by decide)))
   have e1:(gs++[gt])[ops.length]'b=gt:=by simp [<- hgl]
   have e2:(ops++[op])[ops.length]'(by simp)=op:=by simp
   have e3:(Ls++[[]])[ops.length]'c=[]:=by simp [<- hll]
   rw [e1,e2,e3]
   exact this
 ·rw [List.nodup_append]
  refine ⟨h.nodup,by simp,fun a ha b hb e=>?_⟩
  simp at hb
  subst hb
  subst e
  exact hno ha
 ·rcases List.mem_append.1 hx with hx | hx
  ·exact h.newg x hx
  ·simp at hx; subst hx; exact hnew
 ·simp [Value.ownBlock] at hb
  subst hb
  rcases hgg with hgg | hgg
  ·exact h.newt _ hgg
  ·have:=h.touch.size; omega
end Go.Proofs.YtjoinhljdbljaaaGreat
