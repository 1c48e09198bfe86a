/- A sorter gives its next row, and what follows. -/
import Derived.Test.YtjoinhljdbljaaaGreatMrgBToMrgN
set_option maxHeartbeats 4000000
set_option maxRecDepth 20000
set_option linter.unusedSectionVars false
namespace Go.Proofs.YtjoinhljdbljaaaGreat
open Go.RowKit Go.Proofs.Tryz
variable [Inhabited Ground] [Inhabited Range]
variable {B bf blk bm bx cols count j lo m ph pm ps tot:Nat} {Fm:List Nat} {L T:List CU} {R pre:List RI} {ks:List K} {s:SC} {w w' w1:World}
def gW (w:World)(ps:Nat)(n:Nat):World:=w.drew.setCell ⟨ps,15,none⟩ (.int .i64 ((n:Int)+1))
theorem gV (w:World)(ps n:Nat):Touch [ps] w (gW w ps n):=(((Touch.refl [ps] w).drew).setCell (p:=⟨ps,15,none⟩) (by simp) _)
theorem gU (h:Sr w ps s):Sr (gW w ps s.given) ps { s with given:=s.given+1 }:=by
 have h1:Sr w.drew ps s:=h.u (tr_.drew).u (by simp);have:=h1.setGiven (s.given+1);unfold gW;exact this
theorem SM.gave {d:DS}{M:List PF}(h:SM w ps s ks bm cols d M pre none R):SM (gW w ps s.given) ps { s with given:=s.given+1 } ks bm cols d M pre none R:=by
 have t:=gV w ps s.given;have k:∀t',(260:TypeId)≠t'->KT t' w (gW w ps s.given):=λt' ht=>t.tag (nO h.sorter ht);exact⟨gU h.sorter,Sl3.keep h.keys (k 73 (by decide)),h.runs.turned (h.runs.pd.other t (λk hk=>by rw[ms_ hk];exact⟨_,_,_,h.sorter,by decide,by decide⟩)) t (nO h.sorter (by decide)) (nO h.sorter (by decide)),h.own.keep (k 194 (by decide))⟩
theorem MG.gave {hv:Value}(h:MG w lo pm ph hv bf ps ks R L)(hS:Sr w ps s):MG (gW w ps s.given) lo pm ph hv bf ps ks R L:=by
 have t:=gV w ps s.given;have k:∀t',(260:TypeId)≠t'->KT t' w (gW w ps s.given):=λt' ht=>t.tag (nO hS ht);exact h.keep ⟨k _ (by decide),k _ (by decide),k _ (by decide),k _ (by decide),k _ (by decide),k _ (by decide),k _ (by decide),k _ (by decide),KE.of hS (gU hS) rfl⟩
section
variable {w:World} {ps bs:Nat} {s:SC} {hv:Value} {ks:List K} {L:List EV} {bm cols:Nat} {d:DS} {M:List PF} {rows out:List Rec}
theorem OA.gave (h:OA w ps bs s hv ks L bm cols d M rows out):SB (gW w ps s.given) ps bs { s with given:=s.given+1 } hv ks L bm cols d M [] none:=
 h.sb.cells (gU h.sb.sorter) (gV w ps s.given) rfl rfl rfl rfl rfl rfl
theorem OA.len (h:OA w ps bs s hv ks L bm cols d M rows out):out.length+L.length=rows.length:=by
 have:=h.give.perm.length_eq;simpa using this
theorem outA_row (h:OA w ps bs s hv ks L bm cols d M rows out)(hL:L≠[]) :
  Calls prog 174 #[.pointer (some ⟨ps,0,none⟩)] (gW w ps s.given) λe w'=>∃(x:Rec) (an:Int) (ao:Option Addr) (al aC:Nat) (ar az:Int),e=.returned (.agg #[.int .i64 an,.slice ao al aC,.int .i64 ar,.int .i64 az])/\Ro w' (.slice ao al aC) x.row/\(∃s' hv' L',s'.bx=s.bx/\s'.blk=s.blk/\s'.count=s.count/\ps::h_ s'.ph hv'=ps::h_ s.ph hv/\OA w' ps bs s' hv' ks L' bm cols d M rows (out++[x]))/\OM bm (ps::h_ s.ph hv) w w':=by
 obtain⟨x,T,rfl⟩:∃x T,L=x::T:=by
  cases L with
  | nil=>exact absurd rfl hL
  | cons a l=>exact⟨a,l,rfl⟩
 refine(sbPop_any _ ps bs { s with given:=s.given+1 } hv ks (x::T) bm cols d M [] none x h.gave (by simp) h.few).mono ?_;rintro e w' ⟨rfl,hv',L',n,p1,p2,p3,p4,p5⟩;obtain⟨ao,aC,ea⟩:=p3.shape;rw[ea]at p3;have hlen:=p2.length_eq;have hfew:=h.few;simp only[List.length_cons]at hlen hfew;refine⟨x.1.rc,x.1.rc.no,ao,x.1.rc.row.length,aC,x.1.run,x.1.size,by rw[EV.val,ea];rfl,p3,⟨{ s with given:=s.given+1,held:=n },hv',L',rfl,rfl,rfl,by unfold h_;rw[p4],⟨p1,?_,h.mg,?_,by omega,?_,?_,h.hr⟩⟩,ps::h_ s.ph hv,?_,?_,?_,?_,λk hk=>.inl hk⟩
 ·exact h.give.step (e:=x.1) (by simp) (by simpa using p2.map Prod.fst) (haC p1.heap.ok)
 ·show s.given+1=_;rw[h.given];simp
 ·have hi:=h.hi;unfold h_ at hi ⊢;rw[p4];exact hi
 ·have hi:=h.own;unfold h_ at hi ⊢;rw[p4];exact hi
 ·exact((gV w ps s.given).mono (by simp)).trans p5 |>.u
 ·exact λk hk=>h.sb.ownF k (by
   rcases a_.1 hk with rfl|hk
   ·simp[sbF]
   ·simp only[sbF,a_,d_];exact .inr (.inl (.inl hk)))
 ·exact λk hk=>h.hi k (by
   rcases a_.1 hk with rfl|hk
   ·simp
   ·exact o_ _ (o_ _ hk))
 ·exact λk hk=>h.own k (by
   rcases a_.1 hk with rfl|hk
   ·simp
   ·exact o_ _ (o_ _ (o_ _ hk)))
theorem OA.close (h:OA w ps bs s hv ks L bm cols d M rows out)(hl:Left d m j):Sv w ps s.bx bm s.blk cols m j:=by
 refine⟨h.hi _ (by simp),⟨h.own _ (by simp),h.own _ (by simp)⟩,s,d,M,[],rfl,rfl,h.sb.sorter,h.sb.runs,.inr ⟨rfl,?_⟩,hl,h.hr⟩;rcases h.sb.own.shape with⟨e,_⟩|⟨g,cap,cur,e,_⟩
 ·exact⟨_,_,e⟩
 ·exact⟨_,_,e⟩
theorem gave_closeA (h:OA w ps bs s hv ks L bm cols d M rows out)(hl:Left d m j):Sv (gW w ps s.given) ps s.bx bm s.blk cols m j:=by
 refine⟨h.hi _ (by simp),⟨h.own _ (by simp),h.own _ (by simp)⟩,{ s with given:=s.given+1 },d,M,[],rfl,rfl,h.gave.sorter,h.gave.runs,.inr ⟨rfl,?_⟩,hl,h.hr⟩;rcases h.sb.own.shape with⟨e,_⟩|⟨g,cap,cur,e,_⟩
 ·exact⟨_,_,e⟩
 ·exact⟨_,_,e⟩
theorem gave_own (h:Sr w ps s)(n:Nat)(hp:bm<=ps)(hm:Mine ps):OM bm [ps] w (gW w ps n):=⟨[ps],(gV w ps n).u,λk hk=>by rw[ms_ hk];exact .inl ⟨_,_,_,h,by decide⟩,λk hk=>by rw[ms_ hk];exact hp,λk hk=>by rw[ms_ hk];exact hm,λk hk=>.inl hk⟩
end
section
variable {w:World} {lo ps:Nat} {s:SC} {ks:List K} {bm cols:Nat} {d:DS} {M:List PF} {pre:List RI} {pm ph:Nat} {hv:Value} {bf:Nat} {L:List CU} {rows out:List Rec}
theorem OB.close (h:OB w lo ps s ks bm cols d M pre pm ph hv bf L rows out)(hl:Left d m j):Sv w ps s.bx bm s.blk cols m j:=⟨h.hi.2.1,⟨h.own.2.1,h.own.2.2.1⟩,s,d,M,pre,rfl,rfl,h.sm.sorter,h.sm.runs,.inl h.sm.own,hl,h.hr⟩
theorem Sv.quiet {w w':World}{ps bx bm blk cols m j:Nat}(h:Sv w ps bx bm blk cols m j)(t:Touch [] w w'):Sv w' ps bx bm blk cols m j:=by
 obtain⟨s,d,M,pre,h1,h2,h3,h4,h5,h6⟩:=h.st;refine⟨h.hi,h.own,s,d,M,pre,h1,h2,h3.u t.u (by simp),h4.quiet t (by simp) (λk hk=>by simp at hk),?_,h6⟩;rcases h5 with h5|h5
 ·exact .inl (h5.keep (t.tu _))
 ·exact .inr h5
theorem outB_done (h:OB w lo ps s ks bm cols d M pre pm ph hv bf [] rows out)(hl:Left d m j) :
  Calls prog 172 #[.pointer (some ⟨pm,0,none⟩)] (gW w ps s.given) λe w'=>e=.returned (.tuple #[.agg #[.int .i64 0,.slice none 0 0],.bool false])/\Sv w' ps s.bx bm s.blk cols m j/\OM bm [ps] w w':=by
 refine(mnext_nil _ lo pm ph hv bf ps ks pre (h.st.gave h.sm.sorter)).mono ?_;rintro e w' ⟨rfl,t⟩;refine⟨rfl,Sv.quiet (w:=gW w ps s.given) ⟨h.hi.2.1,⟨h.own.2.1,h.own.2.2.1⟩,{ s with given:=s.given+1 },d,M,pre,rfl,rfl,h.sm.gave.sorter,h.sm.gave.runs,.inl h.sm.gave.own,hl,h.hr⟩ t,[ps],((gV w ps s.given).more t (by simp)).u,λk hk=>by rw[ms_ hk];exact .inl ⟨_,_,_,h.sm.sorter,by decide⟩,λk hk=>by rw[ms_ hk];exact h.hi.1,λk hk=>by rw[ms_ hk];exact h.own.1,λk hk=>.inl hk⟩
theorem OB.quiet {w':World}(h:OB w lo ps s ks bm cols d M pre pm ph hv bf L rows out)(t:Touch [] w w'):OB w' lo ps s ks bm cols d M pre pm ph hv bf L rows out:=
 ⟨⟨h.sm.sorter.u t.u (by simp),Sl3.keep h.sm.keys (t.tu _),h.sm.runs.quiet t (by simp) (λk hk=>by simp at hk),h.sm.own.keep (t.tu _)⟩,h.st.quiet t,h.mrg,h.mg,h.given,h.few,h.last,h.c1,h.hi,h.own,h.hr⟩
theorem outB_row {u:CU}(h:OB w lo ps s ks bm cols d M pre pm ph hv bf (u::T) rows out)(hsm:rows.length<=900000) :
  Calls prog 172 #[.pointer (some ⟨pm,0,none⟩)] (gW w ps s.given) λe w'=>∃(an:Int) (ao:Option Addr) (al aC:Nat),e=.returned (.tuple #[.agg #[.int .i64 an,.slice ao al aC],.bool true])/\Ro w' (.slice ao al aC) u.first.row/\(∃hv' L',OB w' lo ps { s with given:=s.given+1 } ks bm cols d M pre pm ph hv' bf L' rows (out++[u.first]))/\OM bm [ps] w w':=by
 have hg:=h.sm.gave;have hm:=h.st.gave h.sm.sorter;have hfew:=h.few;simp only[List.length_cons]at hfew;refine(mnext_cons _ lo pm ph hv bf ps ks pre u T s.bx bm s.blk cols d M pre none hm hg.runs (λx hx=>hx) (by omega) h.c1 h.last).mono ?_;rintro e w' ⟨rfl,hrow,hN⟩;obtain⟨ao,aC,ea⟩:=hrow.shape;obtain⟨hv1,L1,a1,a2⟩:=hN.st;have a3:=a2 rows out h.mrg;obtain⟨FF,t1,mt⟩:=hN.touch;have k1:∀t,t∉[117,307,331,305,241]->KT t (gW w ps s.given) w':=λt ht=>t1.tag (mt.nT ht);have hlen1:L1.length<=1000000:=by
  have e1:=a3.perm.length_eq;have:=flat_len L1;rw[c_]at e1;omega
 rw[ea]at hrow ⊢;refine⟨u.first.no,ao,_,aC,rfl,hrow,⟨hv1,L1,⟨k1 260 (by decide) _ _ _ hg.sorter,Sl3.keep hg.keys (k1 73 (by decide)),hN.runs,hg.own.keep (k1 194 (by decide))⟩,a1,a3,h.mg,by show s.given+1=_;rw[h.given];simp,hlen1,h.last,h.c1,h.hi,h.own,h.hr⟩,?_⟩;have hpsF:ps<w.heap.size:=(agi.1 h.sm.sorter).1;refine⟨ps::FF,(((gV w ps s.given).mono (by simp)).trans (t1.mono (λk hk=>o_ _ hk))).u,λk hk=>?_,λk hk=>?_,λk hk=>?_,λk hk=>?_⟩
 rotate_left
 ·rcases a_.1 hk with rfl|hk
  ·exact h.hi.1
  ·obtain⟨_,_,_,_,_,e⟩:=mt k hk;rcases e with rfl|e
   ·exact h.hi.2.1
   ·exact k_ h.hi.2.2 e
 ·rcases a_.1 hk with rfl|hk
  ·exact h.own.1
  ·obtain⟨_,_,_,_,_,e⟩:=mt k hk;rcases e with rfl|e
   ·exact h.own.2.1
   ·exact .inl (k_ h.own.2.2.2 e)
 ·by_cases e:k=ps
  ·exact .inl (by simp[e])
  ·rcases a_.1 hk with hk|hk
   ·exact absurd hk e
   ·refine .inr (λcs t f he=>?_);obtain⟨cs',t',f',h1,h2,_⟩:=mt k hk;rw[(gV w ps s.given).block k (agi.1 he).1 (by simpa using e),he]at h1;simp only[j_,Obj.cells.injEq]at h1;rw[h1.2.1];simp only[a_,i_,or_false]at h2;rcases h2 with rfl|rfl|rfl|rfl|rfl<;>decide
 rcases a_.1 hk with rfl|hk
 ·exact .inl ⟨_,_,_,h.sm.sorter,by decide⟩
 ·by_cases e:k=ps
  ·exact .inl ⟨_,_,_,by rw[e];exact h.sm.sorter,by decide⟩
  ·rcases mt.ownF k hk with⟨cs,t,f,h1,h2⟩|⟨es,c,h1⟩
   ·refine .inl ⟨cs,t,f,?_,h2⟩;rw[<-(gV w ps s.given).block k (by have:=(agi.1 h1).1;simpa[gW]using this) (by simpa using e)];exact h1
   ·refine .inr ⟨es,c,?_⟩;rw[<-(gV w ps s.given).block k (by have:=(agi.1 h1).1;simpa[gW]using this) (by simpa using e)];exact h1
end
variable [Inhabited Ground] [Inhabited Range]
theorem field263 (a b c d:Value)(w:World):(Instr.field 263 (.agg #[a,b,c,d]) 0).run prog w=.ok (.agg #[a,b]) w:=by kernel_rfl
theorem field205 (a b:Value)(w:World):(Instr.field 205 (.agg #[a,b]) 1).run prog w=.ok b w:=by kernel_rfl
theorem OM.quiet (h:OM B Fm w w1)(t:Touch [] w1 w'):OM B Fm w w':=by
 obtain⟨F,h1,h2⟩:=h;exact⟨F,h1.more t.u (by simp),h2⟩
theorem nX (w:World)(ps:Nat)(s:SC)(h:Sr w ps s)(he:s.given=s.count) :
  Calls prog 137 #[.pointer (some ⟨ps,0,none⟩)] w λe w'=>e=.returned (.tuple #[.slice none 0 0,.bool false])/\Touch [] w w':=by
 obtain⟨c0,c1,c2,c3,c4,c5,c6,c7,c8,c9,c10,c11,c12,c13,c14,c15,cf⟩:=h.cell;rw[he]at c15;clear h cf he;go_enter func137,ntmps137;go_wp2
 go_region
 all_goals go_wp2
 exact bodyPost_ret (v:=.tuple #[.slice none 0 0,.bool false]) (by simp[results,results137,go_sem]) rfl ⟨rfl,tr_.drew⟩
theorem nextB_row (w:World)(lo ps:Nat)(s:SC)(ks:List K)(bm cols:Nat)(d:DS)(M:List PF)(pre:List RI)(pm ph:Nat)(hv:Value)(bf:Nat)(u:CU)(T:List CU)(rows out:List Rec)(h:OB w lo ps s ks bm cols d M pre pm ph hv bf (u::T) rows out)(hsm:rows.length<=900000)(hne:s.given≠s.count) :
  Calls prog 137 #[.pointer (some ⟨ps,0,none⟩)] w λe w'=>∃(ao:Option Addr) (al aC:Nat),e=.returned (.tuple #[.slice ao al aC,.bool true])/\Ro w' (.slice ao al aC) u.first.row/\(∃hv' L',OB w' lo ps { s with given:=s.given+1 } ks bm cols d M pre pm ph hv' bf L' rows (out++[u.first]))/\OM bm [ps] w w':=by
 have hst:=outB_row h hsm;obtain⟨c0,c1,c2,c3,c4,c5,c6,c7,c8,c9,c10,c11,c12,c13,c14,c15,cf⟩:=h.sm.sorter.cell;rw[h.mg]at c14;have hgv:s.given<=900000:=by
  have e1:=h.given;have e2:=h.mrg.count (by simp);omega
 have f15:=cf 15;have hne2:¬(s.given:Int)=(s.count:Int):=by omega
 unfold gW at hst;clear h cf;go_enter func137,ntmps137;go_wp2
 go_region
 all_goals go_wp2_with (go_at_call 172;refine hst.mono ?_;rintro e w1 ⟨an,ao,al,aC,rfl,p1,p2,p3⟩)
 obtain⟨hv',L',p2⟩:=p2;have t2:Touch [] w1 (w1.alloc (.cells #[.int .i64 an,.slice ao al aC] 205)):=tr_.alloc _;exact bodyPost_ret (v:=.tuple #[.slice ao al aC,.bool true]) (by simp[results,results137,go_sem]) rfl ⟨ao,al,aC,rfl,p1.touch t2,⟨hv',L',p2.quiet t2⟩,p3.quiet t2⟩
theorem nextB_done (w:World)(lo ps:Nat)(s:SC)(ks:List K)(bm cols:Nat)(d:DS)(M:List PF)(pre:List RI)(pm ph:Nat)(hv:Value)(bf:Nat)(rows out:List Rec)(m j:Nat)(h:OB w lo ps s ks bm cols d M pre pm ph hv bf [] rows out)(hl:Left d m j)(hsm:rows.length<=900000)(hne:s.given≠s.count) :
  Calls prog 137 #[.pointer (some ⟨ps,0,none⟩)] w λe w'=>e=.returned (.tuple #[.slice none 0 0,.bool false])/\Sv w' ps s.bx bm s.blk cols m j/\OM bm [ps] w w':=by
 have hst:=outB_done h hl;obtain⟨c0,c1,c2,c3,c4,c5,c6,c7,c8,c9,c10,c11,c12,c13,c14,c15,cf⟩:=h.sm.sorter.cell;rw[h.mg]at c14;have hgv:s.given<=900000:=by
  have e1:=h.given;have e2:=h.mrg.end.1.length_eq;omega
 have f15:=cf 15;have hne2:¬(s.given:Int)=(s.count:Int):=by omega
 unfold gW at hst;clear h cf;go_enter func137,ntmps137;go_wp2
 go_region
 all_goals go_wp2_with (go_at_call 172;refine hst.mono ?_;rintro e w1 ⟨rfl,p1,p2⟩)
 have t2:Touch [] w1 (w1.alloc (.cells #[.int .i64 0,.slice none 0 0] 205)):=tr_.alloc _;exact bodyPost_ret (v:=.tuple #[.slice none 0 0,.bool false]) (by simp[results,results137,go_sem]) rfl ⟨rfl,p1.quiet t2,p2.quiet t2⟩
theorem nextA_row (w:World)(ps bs:Nat)(s:SC)(hv:Value)(ks:List K)(L:List EV)(bm cols:Nat)(d:DS)(M:List PF)(rows out:List Rec)(h:OA w ps bs s hv ks L bm cols d M rows out)(hL:L≠[])(hsm:rows.length<=900000)(hne:s.given≠s.count) :
  Calls prog 137 #[.pointer (some ⟨ps,0,none⟩)] w λe w'=>∃(x:Rec) (ao:Option Addr) (al aC:Nat),e=.returned (.tuple #[.slice ao al aC,.bool true])/\Ro w' (.slice ao al aC) x.row/\(∃s' hv' L',s'.bx=s.bx/\s'.blk=s.blk/\s'.count=s.count/\ps::h_ s'.ph hv'=ps::h_ s.ph hv/\OA w' ps bs s' hv' ks L' bm cols d M rows (out++[x]))/\OM bm (ps::h_ s.ph hv) w w':=by
 have hst:=outA_row h hL;have hlen:=len_any _ s.ph hv bs ps ks L h.gave.heap;obtain⟨c0,c1,c2,c3,c4,c5,c6,c7,c8,c9,c10,c11,c12,c13,c14,c15,cf⟩:=h.sb.sorter.cell;rw[h.mg]at c14;have hgv:s.given<=900000:=by
  have e1:=h.given;have e2:=h.len;omega
 have f15:=cf 15;have hne2:¬(s.given:Int)=(s.count:Int):=by omega
 have hz:¬(L.length:Int)=0:=by have:=ay_.2 hL;omega
 unfold gW at hst hlen;have hf1:=field263;have hf2:=field205;clear h cf;go_enter func137,ntmps137;go_wp2
 go_region
 all_goals go_wp2_with (first|(go_at_call 173;refine hlen.mono ?_;rintro e w1 ⟨rfl,rfl⟩)|(go_at_call 174;refine hst.mono ?_;rintro e w1 ⟨x,an,ao,al,aC,ar,az,rfl,p1,p2,p3⟩))
 exact bodyPost_ret (v:=.tuple #[.slice ao al aC,.bool true]) (by simp[results,results137,go_sem]) rfl ⟨x,ao,al,aC,rfl,p1,p2,p3⟩
theorem nextA_done (w:World)(ps bs:Nat)(s:SC)(hv:Value)(ks:List K)(bm cols:Nat)(d:DS)(M:List PF)(rows out:List Rec)(m j:Nat)(h:OA w ps bs s hv ks [] bm cols d M rows out)(hl:Left d m j)(hsm:rows.length<=900000)(hne:s.given≠s.count) :
  Calls prog 137 #[.pointer (some ⟨ps,0,none⟩)] w λe w'=>e=.returned (.tuple #[.slice none 0 0,.bool false])/\Sv w' ps s.bx bm s.blk cols m j/\OM bm [ps] w w':=by
 have hend:=gave_closeA h hl;have hown:=gave_own h.sb.sorter s.given (h.hi ps (by simp)) (h.own ps (by simp));have hlen:=len_any _ s.ph hv bs ps ks [] h.gave.heap;obtain⟨c0,c1,c2,c3,c4,c5,c6,c7,c8,c9,c10,c11,c12,c13,c14,c15,cf⟩:=h.sb.sorter.cell;rw[h.mg]at c14;have hgv:s.given<=900000:=by
  have e1:=h.given;have e2:=h.len;omega
 have f15:=cf 15;have hne2:¬(s.given:Int)=(s.count:Int):=by omega
 unfold gW at hend hlen hown;clear h cf;go_enter func137,ntmps137;go_wp2
 go_region
 all_goals go_wp2_with (go_at_call 173;refine hlen.mono ?_;rintro e w1 ⟨rfl,rfl⟩)
 exact bodyPost_ret (v:=.tuple #[.slice none 0 0,.bool false]) (by simp[results,results137,go_sem]) rfl ⟨rfl,hend,hown⟩
theorem sorterNext_row (w:World)(ps bx bm blk cols count m j:Nat)(ks:List K)(rows out:List Rec)(Fm:List Nat)(tot:Nat)(h:Sj w ps bx bm blk cols count m j ks rows out Fm tot)(hlt:out.length<tot)(hsm:rows.length<=900000) :
  Calls prog 137 #[.pointer (some ⟨ps,0,none⟩)] w λe w'=>∃(x:Rec) (ao:Option Addr) (al aC:Nat),e=.returned (.tuple #[.slice ao al aC,.bool true])/\Ro w' (.slice ao al aC) x.row/\Sj w' ps bx bm blk cols count m j ks rows (out++[x]) Fm tot/\OM bm Fm w w':=by
 obtain⟨s,d,M,rfl,rfl,rfl,hl,hc⟩:=h.st;have hlim:∀x:Rec,(out++[x]).length<=tot:=λx=>by rw[c_,List.length_singleton];omega
 rcases hc with⟨bs,hv,L,hFm,ht,hA⟩|⟨hFm,all,hcut,ht,lo,pre,pm,ph,hv,bf,L,hB⟩
 ·have h1:=hA.len;have h2:=hA.given;refine(nextA_row w ps bs s hv ks L bm cols d M rows out hA (λe=>by subst e;simp at h1;omega) hsm (by omega)).mono ?_;rintro e w' ⟨x,ao,al,aC,rfl,p1,⟨s',hv',L',e1,e2,e3,e4,p2⟩,p3⟩;exact⟨x,ao,al,aC,rfl,p1,⟨hlim x,s',d,M,e1,e2,e3,hl,.inl ⟨bs,hv',L',e4.trans hFm,ht,p2⟩⟩,hFm▸p3⟩
 ·have h2:=hB.given;have h3:=hcut.len;cases L with
  | nil=>have:=hB.mrg.end.1.length_eq;omega
  | cons u T=>
   refine(nextB_row w lo ps s ks bm cols d M pre pm ph hv bf u T all out hB (by omega) (by omega)).mono ?_;rintro e w' ⟨ao,al,aC,rfl,p1,⟨hv',L',p2⟩,p3⟩;exact⟨u.first,ao,al,aC,rfl,p1,⟨hlim _,{ s with given:=s.given+1 },d,M,rfl,rfl,rfl,hl,.inr ⟨hFm,all,hcut,ht,lo,pre,pm,ph,hv',bf,L',p2⟩⟩,hFm▸p3⟩
theorem Sj.first {w:World}{ps bx bm blk cols count m j:Nat}{ks:List K}{rows out:List Rec}{Fm:List Nat}{tot:Nat}(h:Sj w ps bx bm blk cols count m j ks rows out Fm tot):First ks count rows out:=by
 have hlim:=h.lim;obtain⟨s,d,M,rfl,rfl,rfl,hl,hc⟩:=h.st;rcases hc with⟨bs,hv,L,hFm,ht,hA⟩|⟨hFm,all,hcut,ht,lo,pre,pm,ph,hv,bf,L,hB⟩
 ·exact hA.give.first (by omega)
 ·exact hB.mrg.first hcut (by omega)
theorem Sj.over {rows out:List Rec}(h:Sj w ps bx bm blk cols count m j ks rows out Fm tot)(he:tot<=out.length):out.length=count\/out.Perm rows:=by
 have hlim:=h.lim;obtain⟨s,d,M,rfl,rfl,rfl,hl,hc⟩:=h.st;by_cases hn:out.length=s.count
 ·exact .inl hn
 ·refine .inr ?_;rcases hc with⟨bs,hv,L,hFm,ht,hA⟩|⟨hFm,all,hcut,ht,lo,pre,pm,ph,hv,bf,L,hB⟩
  ·have h1:=hA.len;have hL:L=[]:=D_.1 (by omega);subst hL;exact hA.give.end.1
  ·have hL:=hB.mrg.full (by omega);have hm:=hB.mrg;rw[hL]at hm;exact hm.whole hcut (by omega)
theorem sorterNext_done (w:World)(ps bx bm blk cols count m j:Nat)(ks:List K)(rows out:List Rec)(Fm:List Nat)(tot:Nat)(h:Sj w ps bx bm blk cols count m j ks rows out Fm tot)(he:tot<=out.length)(hsm:rows.length<=900000) :
  Calls prog 137 #[.pointer (some ⟨ps,0,none⟩)] w λe w'=>e=.returned (.tuple #[.slice none 0 0,.bool false])/\Sv w' ps bx bm blk cols m j/\OM bm Fm w w':=by
 have hlim:=h.lim;obtain⟨s,d,M,rfl,rfl,rfl,hl,hc⟩:=h.st;rcases hc with⟨bs,hv,L,hFm,ht,hA⟩|⟨hFm,all,hcut,ht,lo,pre,pm,ph,hv,bf,L,hB⟩
 ·have h1:=hA.len;have h2:=hA.given;by_cases hne:s.given=s.count
  ·refine(nX w ps s hA.sb.sorter hne).mono ?_;rintro e w' ⟨rfl,t⟩;exact⟨rfl,(hA.close hl).quiet t,t.ownM⟩
  ·have hL:L=[]:=D_.1 (by omega);subst hL;refine(nextA_done w ps bs s hv ks bm cols d M rows out m j hA hl hsm hne).mono ?_;rintro e w' ⟨rfl,p1,p2⟩;exact⟨rfl,p1,p2.mono (λk hk=>by rw[ms_ hk,<-hFm];simp)⟩
 ·have h2:=hB.given;have h3:=hcut.len;by_cases hne:s.given=s.count
  ·refine(nX w ps s hB.sm.sorter hne).mono ?_;rintro e w' ⟨rfl,t⟩;exact⟨rfl,(hB.close hl).quiet t,t.ownM⟩
  ·have hL:=hB.mrg.full (by omega);rw[List.map_eq_nil_iff]at hL;subst hL;refine(nextB_done w lo ps s ks bm cols d M pre pm ph hv bf all out m j hB hl (by omega) hne).mono ?_;rintro e w' ⟨rfl,p1,p2⟩;exact⟨rfl,p1,hFm▸p2⟩
end Go.Proofs.YtjoinhljdbljaaaGreat
