/- The walk of Next. -/
import Derived.Test.YtjoinhljdbljaaaGreatMrgJToMrgO
set_option maxHeartbeats 4000000
set_option maxRecDepth 20000
namespace Go.Proofs.YtjoinhljdbljaaaGreat
open Go.RowKit
theorem field263 (a b c d:Value) (w:World):(Instr.field 263 (.agg #[a,b,c,d]) 0).run Tryz.prog w=.ok (.agg #[a,b]) w:=by kernel_rfl
theorem field205 (a b:Value) (w:World):(Instr.field 205 (.agg #[a,b]) 1).run Tryz.prog w=.ok b w:=by kernel_rfl
theorem OwnM.quiet {B:Nat} {Fm:List Nat} {w w1 w':World} (h:OwnM B Fm w w1) (t:Touch [] w1 w'):OwnM B Fm w w':=by
 obtain ⟨F,h1,h2⟩:=h
 exact ⟨F,h1.more t.u (by simp),h2⟩
theorem next_count (w:World) (ps:Nat) (s:SC) (h:SorterAt w ps s) (he:s.given=s.count) :
  Calls Tryz.prog 137 #[.pointer (some ⟨ps,0,none⟩)] w fun e w'=>e=.returned (.tuple #[.slice none 0 0,.bool false]) /\ Touch [] w w':=by
 obtain ⟨c0,c1,c2,c3,c4,c5,c6,c7,c8,c9,c10,c11,c12,c13,c14,c15,cf⟩:=h.cell
 rw [he] at c15
 clear h cf he
 go_enter Tryz.func137,Tryz.ntmps137
 go_wp2
 go_region
 all_goals go_wp2
 exact bodyPost_ret (v:=.tuple #[.slice none 0 0,.bool false]) (by simp [results,Tryz.results137,go_sem]) rfl ⟨rfl,(Touch.refl [] _).drew⟩
theorem nextB_row (w:World) (lo ps:Nat) (s:SC) (ks:List K) (bm cols:Nat) (d:DS) (M:List PF) (pre:List RI) (pm ph:Nat) (hv:Value) (bf:Nat) (u:CU) (T:List CU) (rows out:List Rec) (h:OutB w lo ps s ks bm cols d M pre pm ph hv bf (u::T) rows out) (hsm:rows.length <= 900000) (hne:s.given≠s.count) :
  Calls Tryz.prog 137 #[.pointer (some ⟨ps,0,none⟩)] w fun e w'=>∃ (ao:Option Addr) (al acap:Nat),e=.returned (.tuple #[.slice ao al acap,.bool true]) /\ RowAt w' (.slice ao al acap) u.first.row /\ (∃ hv' L',OutB w' lo ps { s with given:=s.given+1 } ks bm cols d M pre pm ph hv' bf L' rows (out++[u.first])) /\ OwnM bm [ps] w w':=by
 have hst:=outB_row h hsm
 obtain ⟨c0,c1,c2,c3,c4,c5,c6,c7,c8,c9,c10,c11,c12,c13,c14,c15,cf⟩:=h.sm.sorter.cell
 rw [h.mg] at c14
 have hgv:s.given <= 900000:=by
  have e1:=h.given
  have e2:=h.mrg.count (by simp)
  omega
 have f15:=cf 15
 have hne2:¬ (s.given:Int)=(s.count:Int):=by omega
 unfold gaveW at hst
 clear h cf
 go_enter Tryz.func137,Tryz.ntmps137
 go_wp2
 go_region
 all_goals go_wp2_with (go_at_call 172; refine hst.mono ?_; rintro e w1 ⟨an,ao,al,acap,rfl,p1,p2,p3⟩)
 obtain ⟨hv',L',p2⟩:=p2
 have t2:Touch [] w1 (w1.alloc (.cells #[.int .i64 an,.slice ao al acap] 205)):=(Touch.refl [] w1).alloc _
 exact bodyPost_ret (v:=.tuple #[.slice ao al acap,.bool true]) (by simp [results,Tryz.results137,go_sem]) rfl ⟨ao,al,acap,rfl,p1.touch t2,⟨hv',L',p2.quiet t2⟩,p3.quiet t2⟩
theorem nextB_done (w:World) (lo ps:Nat) (s:SC) (ks:List K) (bm cols:Nat) (d:DS) (M:List PF) (pre:List RI) (pm ph:Nat) (hv:Value) (bf:Nat) (rows out:List Rec) (m j:Nat) (h:OutB w lo ps s ks bm cols d M pre pm ph hv bf [] rows out) (hl:Left d m j) (hsm:rows.length <= 900000) (hne:s.given≠s.count) :
  Calls Tryz.prog 137 #[.pointer (some ⟨ps,0,none⟩)] w fun e w'=>e=.returned (.tuple #[.slice none 0 0,.bool false]) /\ SEnd w' ps s.bx bm s.blk cols m j /\ OwnM bm [ps] w w':=by
 have hst:=outB_done h hl
 obtain ⟨c0,c1,c2,c3,c4,c5,c6,c7,c8,c9,c10,c11,c12,c13,c14,c15,cf⟩:=h.sm.sorter.cell
 rw [h.mg] at c14
 have hgv:s.given <= 900000:=by
  have e1:=h.given
  have e2:=h.mrg.end.1.length_eq
  omega
 have f15:=cf 15
 have hne2:¬ (s.given:Int)=(s.count:Int):=by omega
 unfold gaveW at hst
 clear h cf
 go_enter Tryz.func137,Tryz.ntmps137
 go_wp2
 go_region
 all_goals go_wp2_with (go_at_call 172; refine hst.mono ?_; rintro e w1 ⟨rfl,p1,p2⟩)
 have t2:Touch [] w1 (w1.alloc (.cells #[.int .i64 0,.slice none 0 0] 205)):=(Touch.refl [] w1).alloc _
 exact bodyPost_ret (v:=.tuple #[.slice none 0 0,.bool false]) (by simp [results,Tryz.results137,go_sem]) rfl ⟨rfl,p1.quiet t2,p2.quiet t2⟩
theorem nextA_row (w:World) (ps bs:Nat) (s:SC) (hv:Value) (ks:List K) (L:List EV) (bm cols:Nat) (d:DS) (M:List PF) (rows out:List Rec) (h:OutA w ps bs s hv ks L bm cols d M rows out) (hL:L≠[]) (hsm:rows.length <= 900000) (hne:s.given≠s.count) :
  Calls Tryz.prog 137 #[.pointer (some ⟨ps,0,none⟩)] w fun e w'=>∃ (x:Rec) (ao:Option Addr) (al acap:Nat),e=.returned (.tuple #[.slice ao al acap,.bool true]) /\ RowAt w' (.slice ao al acap) x.row /\ (∃ s' hv' L',s'.bx=s.bx /\ s'.blk=s.blk /\ s'.count=s.count /\ ps::heapF s'.ph hv'=ps::heapF s.ph hv /\ OutA w' ps bs s' hv' ks L' bm cols d M rows (out++[x])) /\ OwnM bm (ps::heapF s.ph hv) w w':=by
 have hst:=outA_row h hL
 have hlen:=len_any _ s.ph hv bs ps ks L h.gave.heap
 obtain ⟨c0,c1,c2,c3,c4,c5,c6,c7,c8,c9,c10,c11,c12,c13,c14,c15,cf⟩:=h.sb.sorter.cell
 rw [h.mg] at c14
 have hgv:s.given <= 900000:=by
  have e1:=h.given
  have e2:=h.len
  omega
 have f15:=cf 15
 have hne2:¬ (s.given:Int)=(s.count:Int):=by omega
 have hz:¬ (L.length:Int)=0:=by have:=List.length_pos_iff.2 hL; omega
 unfold gaveW at hst hlen
 have hf1:=field263
 have hf2:=field205
 clear h cf
 go_enter Tryz.func137,Tryz.ntmps137
 go_wp2
 go_region
 all_goals go_wp2_with (first | (go_at_call 173; refine hlen.mono ?_; rintro e w1 ⟨rfl,rfl⟩) | (go_at_call 174; refine hst.mono ?_; rintro e w1 ⟨x,an,ao,al,acap,ar,az,rfl,p1,p2,p3⟩))
 exact bodyPost_ret (v:=.tuple #[.slice ao al acap,.bool true]) (by simp [results,Tryz.results137,go_sem]) rfl ⟨x,ao,al,acap,rfl,p1,p2,p3⟩
theorem nextA_done (w:World) (ps bs:Nat) (s:SC) (hv:Value) (ks:List K) (bm cols:Nat) (d:DS) (M:List PF) (rows out:List Rec) (m j:Nat) (h:OutA w ps bs s hv ks [] bm cols d M rows out) (hl:Left d m j) (hsm:rows.length <= 900000) (hne:s.given≠s.count) :
  Calls Tryz.prog 137 #[.pointer (some ⟨ps,0,none⟩)] w fun e w'=>e=.returned (.tuple #[.slice none 0 0,.bool false]) /\ SEnd w' ps s.bx bm s.blk cols m j /\ OwnM bm [ps] w w':=by
 have hend:=gave_closeA h hl
 have hown:=gave_own h.sb.sorter s.given (h.hi ps (by simp))
 have hlen:=len_any _ s.ph hv bs ps ks [] h.gave.heap
 obtain ⟨c0,c1,c2,c3,c4,c5,c6,c7,c8,c9,c10,c11,c12,c13,c14,c15,cf⟩:=h.sb.sorter.cell
 rw [h.mg] at c14
 have hgv:s.given <= 900000:=by
  have e1:=h.given
  have e2:=h.len
  omega
 have f15:=cf 15
 have hne2:¬ (s.given:Int)=(s.count:Int):=by omega
 unfold gaveW at hend hlen hown
 clear h cf
 go_enter Tryz.func137,Tryz.ntmps137
 go_wp2
 go_region
 all_goals go_wp2_with (go_at_call 173; refine hlen.mono ?_; rintro e w1 ⟨rfl,rfl⟩)
 exact bodyPost_ret (v:=.tuple #[.slice none 0 0,.bool false]) (by simp [results,Tryz.results137,go_sem]) rfl ⟨rfl,hend,hown⟩
theorem sorterNext_row (w:World) (ps bx bm blk cols count m j:Nat) (ks:List K) (rows out:List Rec) (Fm:List Nat) (h:SOut w ps bx bm blk cols count m j ks rows out Fm) (hlt:out.length < rows.length) (hcnt:rows.length <= count) (hsm:rows.length <= 900000) :
  Calls Tryz.prog 137 #[.pointer (some ⟨ps,0,none⟩)] w fun e w'=>∃ (x:Rec) (ao:Option Addr) (al acap:Nat),e=.returned (.tuple #[.slice ao al acap,.bool true]) /\ RowAt w' (.slice ao al acap) x.row /\ SOut w' ps bx bm blk cols count m j ks rows (out++[x]) Fm /\ OwnM bm Fm w w':=by
 obtain ⟨s,d,M,rfl,rfl,rfl,hl,hc⟩:=h.st
 rcases hc with ⟨bs,hv,L,hFm,hA⟩ | ⟨hFm,lo,pre,pm,ph,hv,bf,L,hB⟩
 ·have h1:=hA.len
  have h2:=hA.given
  refine (nextA_row w ps bs s hv ks L bm cols d M rows out hA (fun e=>by subst e; simp at h1; omega) hsm (by omega)).mono ?_
  rintro e w' ⟨x,ao,al,acap,rfl,p1,⟨s',hv',L',e1,e2,e3,e4,p2⟩,p3⟩
  exact ⟨x,ao,al,acap,rfl,p1,⟨s',d,M,e1,e2,e3,hl,.inl ⟨bs,hv',L',e4.trans hFm,p2⟩⟩,hFm▸p3⟩
 ·have h2:=hB.given
  cases L with
  | nil=>have:=hB.mrg.end.1.length_eq; omega
  | cons u T=>
   refine (nextB_row w lo ps s ks bm cols d M pre pm ph hv bf u T rows out hB hsm (by omega)).mono ?_
   rintro e w' ⟨ao,al,acap,rfl,p1,⟨hv',L',p2⟩,p3⟩
   exact ⟨u.first,ao,al,acap,rfl,p1,⟨{ s with given:=s.given+1 },d,M,rfl,rfl,rfl,hl,.inr ⟨hFm,lo,pre,pm,ph,hv',bf,L',p2⟩⟩,hFm▸p3⟩
theorem SOut.sorted {w:World} {ps bx bm blk cols count m j:Nat} {ks:List K} {rows out:List Rec} {Fm:List Nat} (h:SOut w ps bx bm blk cols count m j ks rows out Fm) (he:rows.length <= out.length):out.Perm rows /\ Srt ks out:=by
 obtain ⟨s,d,M,rfl,rfl,rfl,hl,hc⟩:=h.st
 rcases hc with ⟨bs,hv,L,hFm,hA⟩ | ⟨hFm,lo,pre,pm,ph,hv,bf,L,hB⟩
 ·have h1:=hA.len
  have hL:L=[]:=List.length_eq_zero_iff.1 (by omega)
  subst hL
  exact hA.give.end
 ·have hL:=hB.mrg.full he
  have hm:=hB.mrg
  rw [hL] at hm
  exact hm.end
theorem sorterNext_done (w:World) (ps bx bm blk cols count m j:Nat) (ks:List K) (rows out:List Rec) (Fm:List Nat) (h:SOut w ps bx bm blk cols count m j ks rows out Fm) (he:rows.length <= out.length) (hsm:rows.length <= 900000) :
  Calls Tryz.prog 137 #[.pointer (some ⟨ps,0,none⟩)] w fun e w'=>e=.returned (.tuple #[.slice none 0 0,.bool false]) /\ SEnd w' ps bx bm blk cols m j /\ OwnM bm Fm w w':=by
 obtain ⟨s,d,M,rfl,rfl,rfl,hl,hc⟩:=h.st
 rcases hc with ⟨bs,hv,L,hFm,hA⟩ | ⟨hFm,lo,pre,pm,ph,hv,bf,L,hB⟩
 ·have h1:=hA.len
  have hL:L=[]:=List.length_eq_zero_iff.1 (by omega)
  subst hL
  by_cases hne:s.given=s.count
  ·refine (next_count w ps s hA.sb.sorter hne).mono ?_
   rintro e w' ⟨rfl,t⟩
   exact ⟨rfl,(hA.close hl).quiet t,t.ownM⟩
  ·refine (nextA_done w ps bs s hv ks bm cols d M rows out m j hA hl hsm hne).mono ?_
   rintro e w' ⟨rfl,p1,p2⟩
   exact ⟨rfl,p1,p2.mono (fun k hk=>by rw [List.mem_singleton.1 hk,<- hFm]; simp)⟩
 ·have hL:=hB.mrg.full he
  rw [List.map_eq_nil_iff] at hL
  subst hL
  by_cases hne:s.given=s.count
  ·refine (next_count w ps s hB.sm.sorter hne).mono ?_
   rintro e w' ⟨rfl,t⟩
   exact ⟨rfl,(hB.close hl).quiet t,t.ownM⟩
  ·refine (nextB_done w lo ps s ks bm cols d M pre pm ph hv bf rows out m j hB hl hsm hne).mono ?_
   rintro e w' ⟨rfl,p1,p2⟩
   exact ⟨rfl,p1,hFm▸p2⟩
end Go.Proofs.YtjoinhljdbljaaaGreat
