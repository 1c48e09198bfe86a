/- A string copied: the walks of strings.Clone. -/
import Derived.Test.YtjoinhljdbljaaaGreatRecBToRecE
import Derived.Lib.Strings
import Derived.Lib.Walk
import Derived.Lib.BufferWrite
import Derived.Lib.UnsafeStr
import Derived.Laws.MakeOwn
set_option maxHeartbeats 4000000
set_option maxRecDepth 100000
namespace Go.Proofs.YtjoinhljdbljaaaGreat
open Go.RowKit Go.Proofs.Tryz
theorem clone0_any (s:ByteArray)(w:World)(hlim:s.size<=1000000) :
  Calls prog 222 #[.string s] w λe w'=>e=.returned (.string s)/\Below w.heap.size w w':=by
 by_cases h0:s.size=0
 ·have hs:s=⟨#[]⟩:=by
   apply ByteArray.ext;exact Array.eq_empty_of_size_eq_zero h0
  subst hs;go_enter func222,ntmps222;go_wp2;go_ret;exact⟨rfl,Below.refl _ _⟩
 ·obtain⟨i0,hi,hz0,hz1,hz2⟩:=info_parts info5;have hinfo:(prog.info? 5).map (·.size)=some 1:=by rw[hi];simp[hz1]
  have hco:prog.cellsOf 5=1:=by simp[Program.cellsOf,hi,hz1]
  obtain⟨M,hM⟩:∃M,M=madeCells (Value.int .u8 0).cells (((s.size:Nat):Int).toNat*i0.size):=⟨_,rfl⟩;have hMs:M.size=s.size:=by rw[hM,size_madeCells,hz1];simp
  have hmk:∀W:World,(Instr.makeSlice 172 (.int .i64 (s.size:Int)) (.int .i64 (s.size:Int))).run prog W=.ok (.slice (some ⟨W.heap.size,0,none⟩) s.size s.size) (W.alloc (.cells M 5)):=λW=>by
   have h:=run_make (P:=prog) W 172 5 i0 (.int .u8 0) underlying172 hi hz0 .i64 .i64 (s.size:Int) (s.size:Int) (by omega) (by omega) (by rw[hz2];omega) (by omega);rw[<-hM]at h;simpa using h
  clear hM;have hcp:=Lib.run_copy_row_string (P:=prog) (w.alloc (.cells M 5)) 172 9 3 5 w.heap.size 0 s.size s.size s M 5 underlying172 hinfo (heap_alloc_new w _) (e_ _) (by omega);obtain⟨Y,hY⟩:∃Y,Y=(M.toList.take 0++Lib.byteCells s.data.toList++M.toList.drop (0+s.size)).toArray:=⟨_,rfl⟩;rw[<-hY]at hcp;have hYl:Y.toList=Lib.byteCells s.data.toList:=by
   rw[hY,List.toList_toArray,List.take_zero,List.nil_append,O_ (by rw[af_];omega),H_]
  have hYs:Y.size=s.size:=by rw[<-af_,hYl,Lib.byteCells_length,<-Lib.size_eq]
  have hgY:((w.alloc (.cells M 5)).setRow w.heap.size Y).heap[w.heap.size]?=some (.cells Y 5 (0,0)):=setRow_heap _ _ M _ 5 (0,0) (heap_alloc_new w _);have hne:s.data.toList≠[]:=λe=>h0 (by rw[Lib.size_eq,e];rfl);have hUS:=Lib.run_unsafeString_row (P:=prog) ((w.alloc (.cells M 5)).setRow w.heap.size Y) 332 3 9 5 underlying332 hco w.heap.size Y.size (by unfold World.shape?;rw[hgY]) s.data.toList hne (by rw[<-Lib.size_eq];omega) (by rw[<-Lib.size_eq];omega)
   (λj x hx=>Lib.cells_of_row hgY Y.size j _ (by rw[N_ (by rw[af_];exact e_ _),hYl];simp[Lib.byteCells,hx]))
  rw[<-Lib.size_eq]at hUS;clear hY;go_enter func222,ntmps222;go_wp2;go_ret;have hb1:Below w.heap.size w (w.alloc (.cells M 5)):=(Below.refl _ w).alloc (e_ _) _;have hb2:Below w.heap.size (w.alloc (.cells M 5)) ((w.alloc (.cells M 5)).setRow w.heap.size Y):=⟨rfl,rfl,rfl,by simp,λk hk=>setRow_other _ _ _ _ (by omega)⟩;exact⟨rfl,Lib.below_freeze (hb1.trans hb2) (p:=⟨w.heap.size,0,none⟩) (e_ _) _⟩
theorem clone_any (s:ByteArray)(w:World)(hlim:s.size<=1000000) :
  Calls prog 216 #[.string s] w λe w'=>e=.returned (.string s)/\Touch [] w w':=by
 go_enter func216,ntmps216
 go_wp2_with (go_at_call 222;refine(clone0_any s _ hlim).mono ?_;rintro e w' ⟨rfl,hB⟩)
 go_ret;exact⟨rfl,Below.t hB⟩
end Go.Proofs.YtjoinhljdbljaaaGreat
