/- The walk of table, and what follows. -/
import Derived.Test.YtjoinhljdbljaaaGreatQryLToSdD
import Derived.Deep.RegionHeld3
import Derived.BigQuiet
set_option maxHeartbeats 4000000
set_option maxRecDepth 20000
namespace Go.Proofs.YtjoinhljdbljaaaGreat
open Go.RowKit
theorem table_any (w:World) (rv:Value) (raw:List Int) (h:RawAt w rv raw) :
  Calls Tryz.prog 30 #[rv] w fun e w'=>∃ bk sv vs rows,e=.returned (.agg #[.string nameT,.slice (some ⟨bk,0,none⟩) 4 4,sv]) /\ Tabled w w' raw bk sv vs rows:=by
 obtain ⟨hI,hlen,ao,cap,rfl,hx⟩:=h
 have HI:Hid (∀ x∈raw,I64 x):=hI
 have HX:Hid (1 <= raw.length -> ∃ b off,ao=some ⟨b,off,none⟩ /\ ∀ j (h:j < raw.length),w.cell? ⟨b,off+j,none⟩=some (.int .i64 raw[j])):=hx
 clear hI hx
 have HINIT:Hid (TabSt w (((w.alloc (.cells #[.string ⟨#[]⟩,.slice none 0 0,.slice none 0 0] 70)).alloc (.cells kindsC 3)).alloc (.cells #[.string nameT,.slice (some ⟨w.heap.size+1,0,none⟩) 4 4,.slice none 0 0] 70)) w.heap.size (w.heap.size+1) (w.heap.size+1+1) raw (.slice none 0 0) [] []):=by
  refine ⟨new3 _ _ _ _,?_,?_,⟨rfl,.inl ⟨rfl,rfl⟩⟩,by simp [Value.ownBlock],rfl,fun i hi=>by simp at hi,fun i hi=>by simp at hi,(((Touch.refl [] _).alloc _).alloc _).alloc _⟩
  ·exact (Below.heap_alloc _ _ _ (by simp only [World.size_alloc]; omega)).trans ((Below.heap_alloc _ _ _ (by simp)).trans (heap_alloc_new w _))
  ·exact (Below.heap_alloc _ _ _ (by simp)).trans (new2 _ _ _)
 go_enter Tryz.func30,Tryz.ntmps30
 go_wp2
 go_loopw [4] (fun i wr=>∃ (k:Nat) (sv:Value) (vs:List Value) (rows:List (List V)),k <= raw.length /\ k <= 1000 /\ i=.int .i64 (k:Int) /\ rows.length=k /\ TabSt w wr w.heap.size (w.heap.size+1) (w.heap.size+1+1) raw sv vs rows) (fun i _=>1000 - (intOf i).toNat)
 case atStart=>exact ⟨0,_,[],[],by omega,by omega,rfl,rfl,HINIT.out⟩
 case round=>
  obtain ⟨k,sv,vs,rows,hk,hk2,rfl,hrl,hS⟩:=hrel
  have HS:Hid (TabSt w wr w.heap.size (w.heap.size+1) (w.heap.size+1+1) raw sv vs rows):=hS
  have HL:Hid (rows.length=k):=hrl
  obtain ⟨so,sn,sc,rfl⟩:=hS.list.slice
  clear hS hrl
  by_cases hlt:k < raw.length
  ·by_cases hlt2:k < 1000
   ·obtain ⟨rb,off,rfl,hx⟩:=HX.out (by omega)
    have hrk:=hx k hlt
    have hI:=HI.out _ (List.getElem_mem hlt)
    have HG:Hid (raw.getD k 0=raw[k]):=by rw [List.getD_eq_getElem?_getD,List.getElem?_eq_getElem hlt]; rfl
    generalize raw[k]=rk at *
    clear hx
    have HRK:Hid (∀ W,Touch [] w W -> W.cell? ⟨rb,off+k,none⟩=some (.int .i64 rk)):=fun W t=>cell_touch hrk t
    clear hrk
    unfold I64 at hI
    have HP:Hid (∀ n W,(1 <= n /\ n <= 1000) -> Calls Tryz.prog 40 #[.int .i64 rk,.int .i64 n] W fun e w'=>e=.returned (.int .i64 (pickN rk n)) /\ w'=W):=fun n W h=>pick_any rk n W hI.1 hI.2 h.1 h.2
    have HWH:Hid (∀ n W,Calls Tryz.prog 61 #[.int .i64 n] W fun e w'=>e=.returned (.agg #[.int .i64 1,.int .i64 n,.string ⟨#[]⟩]) /\ Touch [] W w'):=fun n W=>by
     refine (whole_any n W).mono ?_
     rintro e w' ⟨rfl,hw⟩
     rw [hw]
     exact ⟨rfl,(Touch.refl [] _).alloc _⟩
    have HWO:Hid (∀ W,Calls Tryz.prog 62 #[.int .i64 rk] W fun e w'=>∃ s:ByteArray,e=.returned (.string s) /\ s.size <= 9 /\ Touch [] W w'):=fun W=>word_any W rk hI
    obtain ⟨p0,p1⟩:=pickN_lt rk 20 (by omega)
    have c1:=HRK.out wr HS.out.touch
    by_cases hz:pickN rk 7=0
    ·go_wp2_with (first | (go_at_call 40; refine (HP.out _ _ ⟨by omega,by omega⟩).mono ?_; rintro e w1 ⟨rfl,hw1⟩; rw [hw1]; clear hw1 w1) | (go_at_call 61; refine (HWH.out _ _).mono ?_; rintro e w2 ⟨rfl,hT2⟩; have c2:=cell_touch c1 hT2; have l2:rb < w2.heap.size:=lt_of_cell c2; have l3:rb≠w2.heap.size:=by omega))
     have hB5:(w2.alloc (.cells #[.int .i64 0,.int .i64 0,.string ⟨#[]⟩] 85)).heap[w2.heap.size]?=some (.cells #[.int .i64 0,.int .i64 0,.string ⟨#[]⟩] 85 (0,0)):=heap_alloc_new w2 _
     have HTW:Hid (Touch [] wr (w2.alloc (.cells #[.int .i64 0,.int .i64 0,.string ⟨#[]⟩] 85))):=hT2.alloc _
     have c3:=cell_touch c1 HTW.out
     have HA:Hid (aOf rk=⟨0,0,⟨#[]⟩⟩):=by { unfold Hid aOf; rw [if_pos hz] }
     clear c2 l2 l3 hT2
     generalize w2.alloc (.cells #[.int .i64 0,.int .i64 0,.string ⟨#[]⟩] 85)=W at *
     generalize w2.heap.size=b5 at *
     have HB5:Hid (W.heap[b5]?=some (.cells #[.int .i64 0,.int .i64 0,.string ⟨#[]⟩] 85 (0,0))):=hB5
     have HT3:Hid (TabSt w W w.heap.size (w.heap.size+1) (w.heap.size+1+1) raw (.slice so sn sc) vs rows):=HS.out.quiet HTW.out
     obtain ⟨y0,y1,y2⟩:=box3 HT3.out.box
     obtain ⟨z0,z1,z2⟩:=box3 hB5
     have HSK:Hid (∀ W',Touch [] W W' -> W'.cell? ⟨w.heap.size+1+1,2,none⟩=some (.slice so sn sc) /\ W'.cell? ⟨b5,0,none⟩=some (.int .i64 0) /\ W'.cell? ⟨b5,1,none⟩=some (.int .i64 0) /\ W'.cell? ⟨b5,2,none⟩=some (.string ⟨#[]⟩) /\ W'.cell? ⟨rb,off+k,none⟩=some (.int .i64 rk)):=fun W' t=>⟨cell_touch y2 t,cell_touch z0 t,cell_touch z1 t,cell_touch z2 t,cell_touch c3 t⟩
     have HLV:Hid (vs.length=k):=by { have:=HS.out.len; have:=HL.out; unfold Hid; omega }
     refine wp_region_last (fun w'=>w'.cell? ⟨w.heap.size+1+1,2,none⟩=some (.slice so sn sc) /\ w'.cell? ⟨b5,0,none⟩=some (.int .i64 0) /\ w'.cell? ⟨b5,1,none⟩=some (.int .i64 0) /\ w'.cell? ⟨b5,2,none⟩=some (.string ⟨#[]⟩) /\ w'.cell? ⟨rb,off+k,none⟩=some (.int .i64 rk)) (by kernel_rfl) rfl (lastOK_spec (by kernel_rfl)) (HSK.out _ ((Touch.refl [] _).drew)) (fun hHeld=>?_)
     simp only [List.pop_toArray,List.dropLast]
     generalize hQB:Behind Tryz.prog _ _=QB
     have hpan:∀ c (a:Act) d v w,QB (.panic c) (a.put d v) w -> QB (.panic c) a w:=by { rw [<- hQB]; intro _ _ d _ _ h; cases d<;>exact h }
     have HQB:Hid (Behind Tryz.prog _ _=QB):=hQB
     clear hQB y0 y1 y2 z0 z1 z2 hB5 c1 c3
     refine wpAnyH_take (i:=0) (v:=.pointer (some ⟨w.heap.size+1+1,2,none⟩)) rfl (by kernel_rfl) (by kernel_rfl) (by kernel_rfl) (fun _ _ _ h=>hpan _ _ _ _ _ h) (Or.inl ⟨by rfl,fun wz hz=>?_⟩) hHeld ?_
     ·obtain ⟨hz0,hz1,hz2,hz3,hz4⟩:=hz
      go_simp
     simp only [Act.put,List.setIfInBounds_toArray]
     refine wpAnyH_take (i:=1) (v:=.slice so sn sc) rfl (by kernel_rfl) (by kernel_rfl) (by kernel_rfl) (fun _ _ _ h=>hpan _ _ _ _ _ h) (Or.inl ⟨by rfl,fun wz hz=>?_⟩) hHeld ?_
     ·obtain ⟨hz0,hz1,hz2,hz3,hz4⟩:=hz
      go_simp
     simp only [Act.put]
     refine wpAnyH_take (i:=2) (v:=.agg #[.int .i64 0,.int .i64 0,.string ⟨#[]⟩]) rfl (by kernel_rfl) (by kernel_rfl) (by kernel_rfl) (fun _ _ _ h=>hpan _ _ _ _ _ h) (Or.inl ⟨by rfl,fun wz hz=>?_⟩) hHeld ?_
     ·obtain ⟨hz0,hz1,hz2,hz3,hz4⟩:=hz
      go_simp
     simp only [Act.put]
     refine wpAnyH_take (i:=3) (v:=.int .i64 (k:Int)) rfl (by kernel_rfl) (by kernel_rfl) (by kernel_rfl) (fun _ _ _ h=>hpan _ _ _ _ _ h) (Or.inl ⟨by rfl,fun wz hz=>?_⟩) hHeld ?_
     ·obtain ⟨hz0,hz1,hz2,hz3,hz4⟩:=hz
      go_simp
     simp only [Act.put]
     refine wpAnyH_take (i:=5) (v:=.slice (some ⟨rb,off,none⟩) raw.length cap) rfl (by kernel_rfl) (by kernel_rfl) (by kernel_rfl) (fun _ _ _ h=>hpan _ _ _ _ _ h) (Or.inl ⟨by rfl,fun wz hz=>?_⟩) hHeld ?_
     ·obtain ⟨hz0,hz1,hz2,hz3,hz4⟩:=hz
      go_simp
     simp only [Act.put]
     refine wpAnyH_take (i:=6) (v:=.int .i64 (k:Int)) rfl (by kernel_rfl) (by kernel_rfl) (by kernel_rfl) (fun _ _ _ h=>hpan _ _ _ _ _ h) (Or.inl ⟨by rfl,fun wz hz=>?_⟩) hHeld ?_
     ·obtain ⟨hz0,hz1,hz2,hz3,hz4⟩:=hz
      go_simp
     simp only [Act.put]
     refine wpAnyH_take (i:=7) (v:=.pointer (some ⟨rb,off+k,none⟩)) rfl (by kernel_rfl) (by kernel_rfl) (by kernel_rfl) (fun _ _ _ h=>hpan _ _ _ _ _ h) (Or.inl ⟨by rfl,fun wz hz=>?_⟩) hHeld ?_
     ·obtain ⟨hz0,hz1,hz2,hz3,hz4⟩:=hz
      go_simp
     simp only [Act.put]
     refine wpAnyH_take (i:=8) (v:=.int .i64 rk) rfl (by kernel_rfl) (by kernel_rfl) (by kernel_rfl) (fun _ _ _ h=>hpan _ _ _ _ _ h) (Or.inl ⟨by rfl,fun wz hz=>?_⟩) hHeld ?_
     ·obtain ⟨hz0,hz1,hz2,hz3,hz4⟩:=hz
      go_simp
     simp only [Act.put]
     refine wpAnyH_take (i:=11) (v:=.slice (some ⟨rb,off,none⟩) raw.length cap) rfl (by kernel_rfl) (by kernel_rfl) (by kernel_rfl) (fun _ _ _ h=>hpan _ _ _ _ _ h) (Or.inl ⟨by rfl,fun wz hz=>?_⟩) hHeld ?_
     ·obtain ⟨hz0,hz1,hz2,hz3,hz4⟩:=hz
      go_simp
     simp only [Act.put]
     refine wpAnyH_take (i:=12) (v:=.int .i64 (k:Int)) rfl (by kernel_rfl) (by kernel_rfl) (by kernel_rfl) (fun _ _ _ h=>hpan _ _ _ _ _ h) (Or.inl ⟨by rfl,fun wz hz=>?_⟩) hHeld ?_
     ·obtain ⟨hz0,hz1,hz2,hz3,hz4⟩:=hz
      go_simp
     simp only [Act.put]
     refine wpAnyH_take (i:=13) (v:=.pointer (some ⟨rb,off+k,none⟩)) rfl (by kernel_rfl) (by kernel_rfl) (by kernel_rfl) (fun _ _ _ h=>hpan _ _ _ _ _ h) (Or.inl ⟨by rfl,fun wz hz=>?_⟩) hHeld ?_
     ·obtain ⟨hz0,hz1,hz2,hz3,hz4⟩:=hz
      go_simp
     simp only [Act.put]
     refine wpAnyH_take (i:=14) (v:=.int .i64 rk) rfl (by kernel_rfl) (by kernel_rfl) (by kernel_rfl) (fun _ _ _ h=>hpan _ _ _ _ _ h) (Or.inl ⟨by rfl,fun wz hz=>?_⟩) hHeld ?_
     ·obtain ⟨hz0,hz1,hz2,hz3,hz4⟩:=hz
      go_simp
     simp only [Act.put]
     refine wpAnyH_ready (rs:=[4]) (by kernel_rfl) (by simp) (AllReadyH.cons rfl (fun K hK=>?_) AllReadyH.nil)
     go_simp
     refine (HWH.out _ _).mono ?_
     rintro e w3 ⟨rfl,hT3⟩
     have HT4:Hid (Touch [] W w3):=((Touch.refl [] _).drew).trans hT3
     refine hK.out _ _ (HSK.out _ HT4.out) (fun hHeld3=>?_)
     clear hK K hT3 hHeld
     refine wpAnyH_ready (rs:=[9]) (by kernel_rfl) (by simp) (AllReadyH.cons rfl (fun K hK=>?_) AllReadyH.nil)
     go_simp
     refine (HWO.out _).mono ?_
     rintro e w4 ⟨s,rfl,hs9,hT5⟩
     have HT5:Hid (Touch [] W w4):=HT4.out.trans hT5
     refine hK.out _ _ (HSK.out _ HT5.out) (fun hHeld4=>?_)
     clear hK K hT5 hHeld3
     refine wpAnyH_take (i:=10) (v:=.agg #[.int .i64 2,.int .i64 0,.string s]) rfl (by kernel_rfl) (by kernel_rfl) (by kernel_rfl) (fun _ _ _ h=>hpan _ _ _ _ _ h) (Or.inl ⟨by rfl,fun wz hz=>?_⟩) hHeld4 ?_
     ·obtain ⟨hz0,hz1,hz2,hz3,hz4⟩:=hz
      go_simp
     simp only [Act.put,List.setIfInBounds_toArray]
     refine wpAnyH_ready (rs:=[15]) (by kernel_rfl) (by simp) (AllReadyH.cons rfl (fun K hK=>?_) AllReadyH.nil)
     go_simp
     refine (HP.out _ _ ⟨by omega,by omega⟩).mono ?_
     rintro e w5 ⟨rfl,hw5⟩
     rw [hw5]
     clear hw5 w5
     refine hK.out _ _ hHeld4 (fun hHeld5=>?_)
     clear hK K
     refine wpAnyH_take (i:=16) (v:=.agg #[.int .i64 3,.int .i64 (pickN rk 2),.string ⟨#[]⟩]) rfl (by kernel_rfl) (by kernel_rfl) (by kernel_rfl) (fun _ _ _ h=>hpan _ _ _ _ _ h) (Or.inl ⟨by rfl,fun wz hz=>?_⟩) hHeld5 ?_
     ·obtain ⟨hz0,hz1,hz2,hz3,hz4⟩:=hz
      go_simp
     simp only [Act.put,List.setIfInBounds_toArray]
     refine wpAnyH_ready (rs:=[17]) (by kernel_rfl) (by simp) (AllReadyH.cons rfl (fun K hK=>?_) AllReadyH.nil)
     go_simp
     refine hK.out _ _ (HSK.out _ (HT5.out.alloc _)) (fun hHeld6=>?_)
     clear hK K hHeld4 hHeld5
     refine wpAnyH_ready (rs:=[18]) (by kernel_rfl) (by simp) (AllReadyH.cons rfl (fun K hK=>?_) AllReadyH.nil)
     go_simp
     refine hK.out _ _ (HSK.out _ ((HT5.out.alloc _).alloc _)) (fun hHeld7=>?_)
     clear hK K hHeld6
     have HW6:Hid (TabSt w ((w4.alloc (.cells #[.int .i64 0,.int .i64 0,.string ⟨#[]⟩,.int .i64 1,.int .i64 (k:Int),.string ⟨#[]⟩,.int .i64 2,.int .i64 0,.string s,.int .i64 3,.int .i64 (pickN rk 2),.string ⟨#[]⟩] 85)).alloc (.cells #[.slice (some ⟨w4.heap.size,0,none⟩) 4 4] 83)) w.heap.size (w.heap.size+1) (w.heap.size+1+1) raw (.slice so sn sc) vs rows):=HT3.out.quiet ((HT5.out.alloc _).alloc _)
     have HR6:Hid (RowAt ((w4.alloc (.cells #[.int .i64 0,.int .i64 0,.string ⟨#[]⟩,.int .i64 1,.int .i64 (k:Int),.string ⟨#[]⟩,.int .i64 2,.int .i64 0,.string s,.int .i64 3,.int .i64 (pickN rk 2),.string ⟨#[]⟩] 85)).alloc (.cells #[.slice (some ⟨w4.heap.size,0,none⟩) 4 4] 83)) (.slice (some ⟨w4.heap.size,0,none⟩) 4 4) (rowOf rk k s)):=by { unfold Hid rowOf; rw [HA.out]; exact RowAt.touch (rowAt_new w4 ⟨0,0,⟨#[]⟩⟩ ⟨1,(k:Int),⟨#[]⟩⟩ ⟨2,0,s⟩ ⟨3,pickN rk 2,⟨#[]⟩⟩) ((Touch.refl [] _).alloc _) }
     have HB6:Hid (((w4.alloc (.cells #[.int .i64 0,.int .i64 0,.string ⟨#[]⟩,.int .i64 1,.int .i64 (k:Int),.string ⟨#[]⟩,.int .i64 2,.int .i64 0,.string s,.int .i64 3,.int .i64 (pickN rk 2),.string ⟨#[]⟩] 85)).alloc (.cells #[.slice (some ⟨w4.heap.size,0,none⟩) 4 4] 83)).heap[b5]?=some (.cells #[.int .i64 0,.int .i64 0,.string ⟨#[]⟩] 85 (0,0))):=((HT5.out.alloc _).alloc _).tag0 85 _ _ _ HB5.out
     have HC6:Hid (((w4.alloc (.cells #[.int .i64 0,.int .i64 0,.string ⟨#[]⟩,.int .i64 1,.int .i64 (k:Int),.string ⟨#[]⟩,.int .i64 2,.int .i64 0,.string s,.int .i64 3,.int .i64 (pickN rk 2),.string ⟨#[]⟩] 85)).alloc (.cells #[.slice (some ⟨w4.heap.size,0,none⟩) 4 4] 83)).cell? ⟨w4.heap.size+1,0,none⟩=some (.slice (some ⟨w4.heap.size,0,none⟩) 4 4)):=boxOne (new2 _ _ _)
     have HZ6:Hid (((w4.alloc (.cells #[.int .i64 0,.int .i64 0,.string ⟨#[]⟩,.int .i64 1,.int .i64 (k:Int),.string ⟨#[]⟩,.int .i64 2,.int .i64 0,.string s,.int .i64 3,.int .i64 (pickN rk 2),.string ⟨#[]⟩] 85)).alloc (.cells #[.slice (some ⟨w4.heap.size,0,none⟩) 4 4] 83)).heap.size=w4.heap.size+1+1):=by { unfold Hid; simp }
     generalize (w4.alloc (.cells #[.int .i64 0,.int .i64 0,.string ⟨#[]⟩,.int .i64 1,.int .i64 (k:Int),.string ⟨#[]⟩,.int .i64 2,.int .i64 0,.string s,.int .i64 3,.int .i64 (pickN rk 2),.string ⟨#[]⟩] 85)).alloc (.cells #[.slice (some ⟨w4.heap.size,0,none⟩) 4 4] 83)=W6 at *
     generalize w4.heap.size=H at *
     refine wpAnyH_ready (rs:=[19]) (by kernel_rfl) (by simp) (AllReadyH.cons rfl (fun K hK=>?_) AllReadyH.nil)
     refine step_lst rfl (.tmp 33) (.tmp 50) rfl (.slice so sn sc) vs rfl HW6.out.list ⟨H+1,0,none⟩ (.slice (some ⟨H,0,none⟩) 4 4) 1 rfl HC6.out rfl (by have:=HLV.out; omega) ?_
     intro g cap2 w7 q1 q2 q3 q4
     have t7:Touch (Value.slice so sn sc).ownBlock.toList W6 w7:=(Touch.refl _ _).grown q2 (fun k hk=>by simp [hk])
     obtain ⟨k7,tw7⟩:=HW6.out.grown t7
     have hB7:=k7 70 (by decide) _ _ _ HW6.out.box
     obtain ⟨y0,y1,y2⟩:=box3 hB7
     obtain ⟨z0,z1,z2⟩:=box3 (k7 85 (by decide) _ _ _ HB6.out)
     have f7:w7.frozen? ⟨w.heap.size+1+1,2,none⟩=false:=by { simp [World.frozen?,hB7] }
     have HFIN:Hid (TabSt w (w7.setCell ⟨w.heap.size+1+1,2,none⟩ (.slice (some ⟨g,0,none⟩) (vs.length+1) cap2)) w.heap.size (w.heap.size+1) (w.heap.size+1+1) raw (.slice (some ⟨g,0,none⟩) (vs.length+1) cap2) (vs++[.slice (some ⟨H,0,none⟩) 4 4]) (rows++[rowOf rk k s])):=HW6.out.push HR6.out (by rw [HL.out]; exact ⟨s,hs9,by rw [HG.out]⟩) q1 t7 q3 (by omega) (by omega)
     refine hK.out _ _ ⟨y2,z0,z1,z2,HRK.out w7 tw7⟩ (fun hHeld8=>?_)
     clear hK K hHeld7 t7 k7 q1 q2 q3
     simp only [Act.put,List.setIfInBounds_toArray]
     refine wpAnyH_take (i:=20) (v:=.pointer (some ⟨w.heap.size+1+1,2,none⟩)) rfl (by kernel_rfl) (by kernel_rfl) (by kernel_rfl) (fun _ _ _ h=>hpan _ _ _ _ _ h) (Or.inl ⟨by rfl,fun wz hz=>?_⟩) hHeld8 ?_
     ·obtain ⟨hz0,hz1,hz2,hz3,hz4⟩:=hz
      go_simp
     simp only [Act.put]
     refine wpAnyH_done (by kernel_rfl) ?_ _
     rw [<- HQB.out]
     unfold Behind
     change Oper.wp _ _ _ _ _ _
     go_simp
     go_wp2
     exact ⟨⟨k+1,_,_,_,by omega,by omega,by simp,by simp [HL.out],HFIN.out⟩,by simp only [intOf]; omega⟩
    ·go_wp2_with (first | (go_at_call 40; refine (HP.out _ _ ⟨by omega,by omega⟩).mono ?_; rintro e w1 ⟨rfl,hw1⟩; rw [hw1]; clear hw1 w1) | (go_at_call 61; refine (HWH.out _ _).mono ?_; rintro e w2 ⟨rfl,hT2⟩; have c2:=cell_touch c1 hT2; have l2:rb < w2.heap.size:=lt_of_cell c2; have l3:rb≠w2.heap.size:=by omega))
     have hB5:(w2.alloc (.cells #[.int .i64 1,.int .i64 (pickN rk 20 - 10),.string ⟨#[]⟩] 85)).heap[w2.heap.size]?=some (.cells #[.int .i64 1,.int .i64 (pickN rk 20 - 10),.string ⟨#[]⟩] 85 (0,0)):=heap_alloc_new w2 _
     have HTW:Hid (Touch [] wr (w2.alloc (.cells #[.int .i64 1,.int .i64 (pickN rk 20 - 10),.string ⟨#[]⟩] 85))):=hT2.alloc _
     have c3:=cell_touch c1 HTW.out
     have HA:Hid (aOf rk=⟨1,(pickN rk 20 - 10),⟨#[]⟩⟩):=by { unfold Hid aOf; rw [if_neg hz] }
     clear c2 l2 l3 hT2
     generalize w2.alloc (.cells #[.int .i64 1,.int .i64 (pickN rk 20 - 10),.string ⟨#[]⟩] 85)=W at *
     generalize w2.heap.size=b5 at *
     have HB5:Hid (W.heap[b5]?=some (.cells #[.int .i64 1,.int .i64 (pickN rk 20 - 10),.string ⟨#[]⟩] 85 (0,0))):=hB5
     have HT3:Hid (TabSt w W w.heap.size (w.heap.size+1) (w.heap.size+1+1) raw (.slice so sn sc) vs rows):=HS.out.quiet HTW.out
     obtain ⟨y0,y1,y2⟩:=box3 HT3.out.box
     obtain ⟨z0,z1,z2⟩:=box3 hB5
     have HSK:Hid (∀ W',Touch [] W W' -> W'.cell? ⟨w.heap.size+1+1,2,none⟩=some (.slice so sn sc) /\ W'.cell? ⟨b5,0,none⟩=some (.int .i64 1) /\ W'.cell? ⟨b5,1,none⟩=some (.int .i64 (pickN rk 20 - 10)) /\ W'.cell? ⟨b5,2,none⟩=some (.string ⟨#[]⟩) /\ W'.cell? ⟨rb,off+k,none⟩=some (.int .i64 rk)):=fun W' t=>⟨cell_touch y2 t,cell_touch z0 t,cell_touch z1 t,cell_touch z2 t,cell_touch c3 t⟩
     have HLV:Hid (vs.length=k):=by { have:=HS.out.len; have:=HL.out; unfold Hid; omega }
     refine wp_region_last (fun w'=>w'.cell? ⟨w.heap.size+1+1,2,none⟩=some (.slice so sn sc) /\ w'.cell? ⟨b5,0,none⟩=some (.int .i64 1) /\ w'.cell? ⟨b5,1,none⟩=some (.int .i64 (pickN rk 20 - 10)) /\ w'.cell? ⟨b5,2,none⟩=some (.string ⟨#[]⟩) /\ w'.cell? ⟨rb,off+k,none⟩=some (.int .i64 rk)) (by kernel_rfl) rfl (lastOK_spec (by kernel_rfl)) (HSK.out _ ((Touch.refl [] _).drew)) (fun hHeld=>?_)
     simp only [List.pop_toArray,List.dropLast]
     generalize hQB:Behind Tryz.prog _ _=QB
     have hpan:∀ c (a:Act) d v w,QB (.panic c) (a.put d v) w -> QB (.panic c) a w:=by { rw [<- hQB]; intro _ _ d _ _ h; cases d<;>exact h }
     have HQB:Hid (Behind Tryz.prog _ _=QB):=hQB
     clear hQB y0 y1 y2 z0 z1 z2 hB5 c1 c3
     refine wpAnyH_take (i:=0) (v:=.pointer (some ⟨w.heap.size+1+1,2,none⟩)) rfl (by kernel_rfl) (by kernel_rfl) (by kernel_rfl) (fun _ _ _ h=>hpan _ _ _ _ _ h) (Or.inl ⟨by rfl,fun wz hz=>?_⟩) hHeld ?_
     ·obtain ⟨hz0,hz1,hz2,hz3,hz4⟩:=hz
      go_simp
     simp only [Act.put,List.setIfInBounds_toArray]
     refine wpAnyH_take (i:=1) (v:=.slice so sn sc) rfl (by kernel_rfl) (by kernel_rfl) (by kernel_rfl) (fun _ _ _ h=>hpan _ _ _ _ _ h) (Or.inl ⟨by rfl,fun wz hz=>?_⟩) hHeld ?_
     ·obtain ⟨hz0,hz1,hz2,hz3,hz4⟩:=hz
      go_simp
     simp only [Act.put]
     refine wpAnyH_take (i:=2) (v:=.agg #[.int .i64 1,.int .i64 (pickN rk 20 - 10),.string ⟨#[]⟩]) rfl (by kernel_rfl) (by kernel_rfl) (by kernel_rfl) (fun _ _ _ h=>hpan _ _ _ _ _ h) (Or.inl ⟨by rfl,fun wz hz=>?_⟩) hHeld ?_
     ·obtain ⟨hz0,hz1,hz2,hz3,hz4⟩:=hz
      go_simp
     simp only [Act.put]
     refine wpAnyH_take (i:=3) (v:=.int .i64 (k:Int)) rfl (by kernel_rfl) (by kernel_rfl) (by kernel_rfl) (fun _ _ _ h=>hpan _ _ _ _ _ h) (Or.inl ⟨by rfl,fun wz hz=>?_⟩) hHeld ?_
     ·obtain ⟨hz0,hz1,hz2,hz3,hz4⟩:=hz
      go_simp
     simp only [Act.put]
     refine wpAnyH_take (i:=5) (v:=.slice (some ⟨rb,off,none⟩) raw.length cap) rfl (by kernel_rfl) (by kernel_rfl) (by kernel_rfl) (fun _ _ _ h=>hpan _ _ _ _ _ h) (Or.inl ⟨by rfl,fun wz hz=>?_⟩) hHeld ?_
     ·obtain ⟨hz0,hz1,hz2,hz3,hz4⟩:=hz
      go_simp
     simp only [Act.put]
     refine wpAnyH_take (i:=6) (v:=.int .i64 (k:Int)) rfl (by kernel_rfl) (by kernel_rfl) (by kernel_rfl) (fun _ _ _ h=>hpan _ _ _ _ _ h) (Or.inl ⟨by rfl,fun wz hz=>?_⟩) hHeld ?_
     ·obtain ⟨hz0,hz1,hz2,hz3,hz4⟩:=hz
      go_simp
     simp only [Act.put]
     refine wpAnyH_take (i:=7) (v:=.pointer (some ⟨rb,off+k,none⟩)) rfl (by kernel_rfl) (by kernel_rfl) (by kernel_rfl) (fun _ _ _ h=>hpan _ _ _ _ _ h) (Or.inl ⟨by rfl,fun wz hz=>?_⟩) hHeld ?_
     ·obtain ⟨hz0,hz1,hz2,hz3,hz4⟩:=hz
      go_simp
     simp only [Act.put]
     refine wpAnyH_take (i:=8) (v:=.int .i64 rk) rfl (by kernel_rfl) (by kernel_rfl) (by kernel_rfl) (fun _ _ _ h=>hpan _ _ _ _ _ h) (Or.inl ⟨by rfl,fun wz hz=>?_⟩) hHeld ?_
     ·obtain ⟨hz0,hz1,hz2,hz3,hz4⟩:=hz
      go_simp
     simp only [Act.put]
     refine wpAnyH_take (i:=11) (v:=.slice (some ⟨rb,off,none⟩) raw.length cap) rfl (by kernel_rfl) (by kernel_rfl) (by kernel_rfl) (fun _ _ _ h=>hpan _ _ _ _ _ h) (Or.inl ⟨by rfl,fun wz hz=>?_⟩) hHeld ?_
     ·obtain ⟨hz0,hz1,hz2,hz3,hz4⟩:=hz
      go_simp
     simp only [Act.put]
     refine wpAnyH_take (i:=12) (v:=.int .i64 (k:Int)) rfl (by kernel_rfl) (by kernel_rfl) (by kernel_rfl) (fun _ _ _ h=>hpan _ _ _ _ _ h) (Or.inl ⟨by rfl,fun wz hz=>?_⟩) hHeld ?_
     ·obtain ⟨hz0,hz1,hz2,hz3,hz4⟩:=hz
      go_simp
     simp only [Act.put]
     refine wpAnyH_take (i:=13) (v:=.pointer (some ⟨rb,off+k,none⟩)) rfl (by kernel_rfl) (by kernel_rfl) (by kernel_rfl) (fun _ _ _ h=>hpan _ _ _ _ _ h) (Or.inl ⟨by rfl,fun wz hz=>?_⟩) hHeld ?_
     ·obtain ⟨hz0,hz1,hz2,hz3,hz4⟩:=hz
      go_simp
     simp only [Act.put]
     refine wpAnyH_take (i:=14) (v:=.int .i64 rk) rfl (by kernel_rfl) (by kernel_rfl) (by kernel_rfl) (fun _ _ _ h=>hpan _ _ _ _ _ h) (Or.inl ⟨by rfl,fun wz hz=>?_⟩) hHeld ?_
     ·obtain ⟨hz0,hz1,hz2,hz3,hz4⟩:=hz
      go_simp
     simp only [Act.put]
     refine wpAnyH_ready (rs:=[4]) (by kernel_rfl) (by simp) (AllReadyH.cons rfl (fun K hK=>?_) AllReadyH.nil)
     go_simp
     refine (HWH.out _ _).mono ?_
     rintro e w3 ⟨rfl,hT3⟩
     have HT4:Hid (Touch [] W w3):=((Touch.refl [] _).drew).trans hT3
     refine hK.out _ _ (HSK.out _ HT4.out) (fun hHeld3=>?_)
     clear hK K hT3 hHeld
     refine wpAnyH_ready (rs:=[9]) (by kernel_rfl) (by simp) (AllReadyH.cons rfl (fun K hK=>?_) AllReadyH.nil)
     go_simp
     refine (HWO.out _).mono ?_
     rintro e w4 ⟨s,rfl,hs9,hT5⟩
     have HT5:Hid (Touch [] W w4):=HT4.out.trans hT5
     refine hK.out _ _ (HSK.out _ HT5.out) (fun hHeld4=>?_)
     clear hK K hT5 hHeld3
     refine wpAnyH_take (i:=10) (v:=.agg #[.int .i64 2,.int .i64 0,.string s]) rfl (by kernel_rfl) (by kernel_rfl) (by kernel_rfl) (fun _ _ _ h=>hpan _ _ _ _ _ h) (Or.inl ⟨by rfl,fun wz hz=>?_⟩) hHeld4 ?_
     ·obtain ⟨hz0,hz1,hz2,hz3,hz4⟩:=hz
      go_simp
     simp only [Act.put,List.setIfInBounds_toArray]
     refine wpAnyH_ready (rs:=[15]) (by kernel_rfl) (by simp) (AllReadyH.cons rfl (fun K hK=>?_) AllReadyH.nil)
     go_simp
     refine (HP.out _ _ ⟨by omega,by omega⟩).mono ?_
     rintro e w5 ⟨rfl,hw5⟩
     rw [hw5]
     clear hw5 w5
     refine hK.out _ _ hHeld4 (fun hHeld5=>?_)
     clear hK K
     refine wpAnyH_take (i:=16) (v:=.agg #[.int .i64 3,.int .i64 (pickN rk 2),.string ⟨#[]⟩]) rfl (by kernel_rfl) (by kernel_rfl) (by kernel_rfl) (fun _ _ _ h=>hpan _ _ _ _ _ h) (Or.inl ⟨by rfl,fun wz hz=>?_⟩) hHeld5 ?_
     ·obtain ⟨hz0,hz1,hz2,hz3,hz4⟩:=hz
      go_simp
     simp only [Act.put,List.setIfInBounds_toArray]
     refine wpAnyH_ready (rs:=[17]) (by kernel_rfl) (by simp) (AllReadyH.cons rfl (fun K hK=>?_) AllReadyH.nil)
     go_simp
     refine hK.out _ _ (HSK.out _ (HT5.out.alloc _)) (fun hHeld6=>?_)
     clear hK K hHeld4 hHeld5
     refine wpAnyH_ready (rs:=[18]) (by kernel_rfl) (by simp) (AllReadyH.cons rfl (fun K hK=>?_) AllReadyH.nil)
     go_simp
     refine hK.out _ _ (HSK.out _ ((HT5.out.alloc _).alloc _)) (fun hHeld7=>?_)
     clear hK K hHeld6
     have HW6:Hid (TabSt w ((w4.alloc (.cells #[.int .i64 1,.int .i64 (pickN rk 20 - 10),.string ⟨#[]⟩,.int .i64 1,.int .i64 (k:Int),.string ⟨#[]⟩,.int .i64 2,.int .i64 0,.string s,.int .i64 3,.int .i64 (pickN rk 2),.string ⟨#[]⟩] 85)).alloc (.cells #[.slice (some ⟨w4.heap.size,0,none⟩) 4 4] 83)) w.heap.size (w.heap.size+1) (w.heap.size+1+1) raw (.slice so sn sc) vs rows):=HT3.out.quiet ((HT5.out.alloc _).alloc _)
     have HR6:Hid (RowAt ((w4.alloc (.cells #[.int .i64 1,.int .i64 (pickN rk 20 - 10),.string ⟨#[]⟩,.int .i64 1,.int .i64 (k:Int),.string ⟨#[]⟩,.int .i64 2,.int .i64 0,.string s,.int .i64 3,.int .i64 (pickN rk 2),.string ⟨#[]⟩] 85)).alloc (.cells #[.slice (some ⟨w4.heap.size,0,none⟩) 4 4] 83)) (.slice (some ⟨w4.heap.size,0,none⟩) 4 4) (rowOf rk k s)):=by { unfold Hid rowOf; rw [HA.out]; exact RowAt.touch (rowAt_new w4 ⟨1,(pickN rk 20 - 10),⟨#[]⟩⟩ ⟨1,(k:Int),⟨#[]⟩⟩ ⟨2,0,s⟩ ⟨3,pickN rk 2,⟨#[]⟩⟩) ((Touch.refl [] _).alloc _) }
     have HB6:Hid (((w4.alloc (.cells #[.int .i64 1,.int .i64 (pickN rk 20 - 10),.string ⟨#[]⟩,.int .i64 1,.int .i64 (k:Int),.string ⟨#[]⟩,.int .i64 2,.int .i64 0,.string s,.int .i64 3,.int .i64 (pickN rk 2),.string ⟨#[]⟩] 85)).alloc (.cells #[.slice (some ⟨w4.heap.size,0,none⟩) 4 4] 83)).heap[b5]?=some (.cells #[.int .i64 1,.int .i64 (pickN rk 20 - 10),.string ⟨#[]⟩] 85 (0,0))):=((HT5.out.alloc _).alloc _).tag0 85 _ _ _ HB5.out
     have HC6:Hid (((w4.alloc (.cells #[.int .i64 1,.int .i64 (pickN rk 20 - 10),.string ⟨#[]⟩,.int .i64 1,.int .i64 (k:Int),.string ⟨#[]⟩,.int .i64 2,.int .i64 0,.string s,.int .i64 3,.int .i64 (pickN rk 2),.string ⟨#[]⟩] 85)).alloc (.cells #[.slice (some ⟨w4.heap.size,0,none⟩) 4 4] 83)).cell? ⟨w4.heap.size+1,0,none⟩=some (.slice (some ⟨w4.heap.size,0,none⟩) 4 4)):=boxOne (new2 _ _ _)
     have HZ6:Hid (((w4.alloc (.cells #[.int .i64 1,.int .i64 (pickN rk 20 - 10),.string ⟨#[]⟩,.int .i64 1,.int .i64 (k:Int),.string ⟨#[]⟩,.int .i64 2,.int .i64 0,.string s,.int .i64 3,.int .i64 (pickN rk 2),.string ⟨#[]⟩] 85)).alloc (.cells #[.slice (some ⟨w4.heap.size,0,none⟩) 4 4] 83)).heap.size=w4.heap.size+1+1):=by { unfold Hid; simp }
     generalize (w4.alloc (.cells #[.int .i64 1,.int .i64 (pickN rk 20 - 10),.string ⟨#[]⟩,.int .i64 1,.int .i64 (k:Int),.string ⟨#[]⟩,.int .i64 2,.int .i64 0,.string s,.int .i64 3,.int .i64 (pickN rk 2),.string ⟨#[]⟩] 85)).alloc (.cells #[.slice (some ⟨w4.heap.size,0,none⟩) 4 4] 83)=W6 at *
     generalize w4.heap.size=H at *
     refine wpAnyH_ready (rs:=[19]) (by kernel_rfl) (by simp) (AllReadyH.cons rfl (fun K hK=>?_) AllReadyH.nil)
     refine step_lst rfl (.tmp 33) (.tmp 50) rfl (.slice so sn sc) vs rfl HW6.out.list ⟨H+1,0,none⟩ (.slice (some ⟨H,0,none⟩) 4 4) 1 rfl HC6.out rfl (by have:=HLV.out; omega) ?_
     intro g cap2 w7 q1 q2 q3 q4
     have t7:Touch (Value.slice so sn sc).ownBlock.toList W6 w7:=(Touch.refl _ _).grown q2 (fun k hk=>by simp [hk])
     obtain ⟨k7,tw7⟩:=HW6.out.grown t7
     have hB7:=k7 70 (by decide) _ _ _ HW6.out.box
     obtain ⟨y0,y1,y2⟩:=box3 hB7
     obtain ⟨z0,z1,z2⟩:=box3 (k7 85 (by decide) _ _ _ HB6.out)
     have f7:w7.frozen? ⟨w.heap.size+1+1,2,none⟩=false:=by { simp [World.frozen?,hB7] }
     have HFIN:Hid (TabSt w (w7.setCell ⟨w.heap.size+1+1,2,none⟩ (.slice (some ⟨g,0,none⟩) (vs.length+1) cap2)) w.heap.size (w.heap.size+1) (w.heap.size+1+1) raw (.slice (some ⟨g,0,none⟩) (vs.length+1) cap2) (vs++[.slice (some ⟨H,0,none⟩) 4 4]) (rows++[rowOf rk k s])):=HW6.out.push HR6.out (by rw [HL.out]; exact ⟨s,hs9,by rw [HG.out]⟩) q1 t7 q3 (by omega) (by omega)
     refine hK.out _ _ ⟨y2,z0,z1,z2,HRK.out w7 tw7⟩ (fun hHeld8=>?_)
     clear hK K hHeld7 t7 k7 q1 q2 q3
     simp only [Act.put,List.setIfInBounds_toArray]
     refine wpAnyH_take (i:=20) (v:=.pointer (some ⟨w.heap.size+1+1,2,none⟩)) rfl (by kernel_rfl) (by kernel_rfl) (by kernel_rfl) (fun _ _ _ h=>hpan _ _ _ _ _ h) (Or.inl ⟨by rfl,fun wz hz=>?_⟩) hHeld8 ?_
     ·obtain ⟨hz0,hz1,hz2,hz3,hz4⟩:=hz
      go_simp
     simp only [Act.put]
     refine wpAnyH_done (by kernel_rfl) ?_ _
     rw [<- HQB.out]
     unfold Behind
     change Oper.wp _ _ _ _ _ _
     go_simp
     go_wp2
     exact ⟨⟨k+1,_,_,_,by omega,by omega,by simp,by simp [HL.out],HFIN.out⟩,by simp only [intOf]; omega⟩
   ·have hk3:k=1000:=by omega
    obtain ⟨y0,y1,y2⟩:=box3 HS.out.box
    obtain ⟨z0,z1,z2⟩:=box3 HS.out.res
    have f0:∀ i,wr.frozen? ⟨w.heap.size,i,none⟩=false:=fun i=>by simp [World.frozen?,HS.out.res]
    have f1:=f0 0
    have f2:=f0 1
    have f3:=f0 2
    go_wp2
    have hT8:Touch [w.heap.size] wr (((wr.setCell ⟨w.heap.size,0,none⟩ (.string nameT)).setCell ⟨w.heap.size,1,none⟩ (.slice (some ⟨w.heap.size+1,0,none⟩) 4 4)).setCell ⟨w.heap.size,2,none⟩ (.slice so sn sc)):=(((Touch.refl [w.heap.size] _).setCell (by simp) _).setCell (by simp) _).setCell (by simp) _
    exact bodyPost_ret (v:=.agg #[.string nameT,.slice (some ⟨w.heap.size+1,0,none⟩) 4 4,.slice so sn sc]) (by simp [results,Tryz.results30,go_sem,z0,z1,z2]) rfl ⟨_,_,vs,rows,rfl,HS.out.done hT8 (Nat.le_refl _) (by rw [HL.out]; omega)⟩
  ·have hk3:k=raw.length:=by omega
   obtain ⟨y0,y1,y2⟩:=box3 HS.out.box
   obtain ⟨z0,z1,z2⟩:=box3 HS.out.res
   have f0:∀ i,wr.frozen? ⟨w.heap.size,i,none⟩=false:=fun i=>by simp [World.frozen?,HS.out.res]
   have f1:=f0 0
   have f2:=f0 1
   have f3:=f0 2
   go_wp2
   have hT8:Touch [w.heap.size] wr (((wr.setCell ⟨w.heap.size,0,none⟩ (.string nameT)).setCell ⟨w.heap.size,1,none⟩ (.slice (some ⟨w.heap.size+1,0,none⟩) 4 4)).setCell ⟨w.heap.size,2,none⟩ (.slice so sn sc)):=(((Touch.refl [w.heap.size] _).setCell (by simp) _).setCell (by simp) _).setCell (by simp) _
   exact bodyPost_ret (v:=.agg #[.string nameT,.slice (some ⟨w.heap.size+1,0,none⟩) 4 4,.slice so sn sc]) (by simp [results,Tryz.results30,go_sem,z0,z1,z2]) rfl ⟨_,_,vs,rows,rfl,HS.out.done hT8 (Nat.le_refl _) (by rw [HL.out]; omega)⟩
theorem aOf_cases (r:Int):aOf r=⟨0,0,⟨#[]⟩⟩ \/ ∃ n:Int,(-10 <= n /\ n < 10) /\ aOf r=⟨1,n,⟨#[]⟩⟩:=by
 unfold aOf
 split
 ·exact .inl rfl
 ·obtain ⟨h1,h2⟩:=pickN_lt r 20 (by omega)
  exact .inr ⟨_,⟨by omega,by omega⟩,rfl⟩
theorem i64_of {n:Int} (h1:-1000000 <= n) (h2:n <= 1000000):I64 n:=by unfold I64; omega
theorem rowOf_fair (r:Int) (i:Nat) (s:ByteArray) (hs:s.size <= 9) (hi:i <= 1000000):∀ y∈rowOf r i s,Fair y:=by
 intro y hy
 simp only [rowOf,List.mem_cons,List.not_mem_nil,or_false] at hy
 rcases hy with rfl | rfl | rfl | rfl
 ·rcases aOf_cases r with h | ⟨n,hn,h⟩
  ·rw [h]; exact .inl ⟨rfl,rfl,rfl⟩
  ·rw [h]; exact .inr (.inl ⟨rfl,i64_of (n:=n) (by omega) (by omega),rfl⟩)
 ·exact .inr (.inl ⟨rfl,i64_of (n:=(i:Int)) (by omega) (by omega),rfl⟩)
 ·exact .inr (.inr (.inl ⟨rfl,rfl,by show s.size <= 200; omega⟩))
 ·obtain ⟨h1,h2⟩:=pickN_lt r 2 (by omega)
  exact .inr (.inr (.inr ⟨rfl,by show pickN r 2=0 \/ pickN r 2=1; omega,rfl⟩))
theorem rowOf_size (r:Int) (i:Nat) (s:ByteArray) (hs:s.size <= 9):sizeR (rowOf r i s) <= 40:=by
 have ha:sizeV (aOf r) <= 9:=by
  rcases aOf_cases r with h | ⟨n,hn,h⟩<;>rw [h]<;>simp [sizeV]
 have hb:sizeV ⟨1,(i:Int),⟨#[]⟩⟩=9:=by simp [sizeV]
 have hc:sizeV ⟨2,0,s⟩=3+s.size:=by simp [sizeV]
 have hd:sizeV ⟨3,pickN r 2,⟨#[]⟩⟩=2:=by simp [sizeV]
 unfold sizeR rowOf
 simp only [List.map_cons,List.map_nil,List.sum_cons,List.sum_nil,hb,hc,hd]
 omega
theorem rows_ok {raw:List Int} {rows:List (List V)} {ks:List K} (blk:Nat) (hb:64 <= blk) (hn:rows.length <= 1000) (h:∀ i (h:i < rows.length),TRow raw i rows[i]) (hk:goodKeys ks 4):RowsOK blk 4 ks rows:=by
 have hf:∀ i (hi:i < rows.length),∀ y∈rows[i],Fair y:=fun i hi=>by
  obtain ⟨s,hs,e⟩:=h i hi
  rw [e]
  exact rowOf_fair _ i s hs (by omega)
 refine ⟨fun i hi=>⟨i64_of (n:=(i:Int)) (by omega) (by omega),hf i hi,?_,?_⟩,fun r hr=>?_⟩
 ·obtain ⟨s,hs,e⟩:=h i hi
  show rows[i].length=4
  rw [e]; rfl
 ·obtain ⟨s,hs,e⟩:=h i hi
  have:=rowOf_size (raw.getD i 0) i s hs
  show 16+sizeR rows[i] <= blk
  rw [e]; omega
 ·obtain ⟨i,hi,rfl⟩:=List.getElem_of_mem hr
  refine ⟨hf i hi,?_⟩
  obtain ⟨s,hs,e⟩:=h i hi
  rw [e]; exact hk
theorem nil_empty:Old.nilB ⟨#[]⟩=true:=by kernel_rfl
theorem row_pair {raw:List Int} {r:List V} {i:Nat} (h:TRow raw i r):Old.RowOK (r.map V.old) [1,1,2,3]:=by
 obtain ⟨s,hs,rfl⟩:=h
 refine ⟨rfl,fun j hj h2=>?_⟩
 simp only [List.length_cons,List.length_nil] at h2
 match j,h2 with
 | 0,_=>
  show Old.PairOK (aOf (raw.getD i 0)).old 1
  rcases aOf_cases (raw.getD i 0) with h | ⟨n,hn,h⟩
  ·rw [h]; exact ⟨.inl rfl,by simp [V.old,Old.gvalB,nil_empty]⟩
  ·rw [h]; exact ⟨.inr rfl,by simp [V.old,Old.gvalB,nil_empty]⟩
 | 1,_=>exact ⟨.inr rfl,by simp [rowOf,V.old,Old.gvalB,nil_empty]⟩
 | 2,_=>exact ⟨.inr rfl,by simp [rowOf,V.old,Old.gvalB]; omega⟩
 | 3,_=>
  obtain ⟨h1,h2⟩:=pickN_lt (raw.getD i 0) 2 (by omega)
  refine ⟨.inr rfl,?_⟩
  have h3:pickN (raw.getD i 0) 2=0 \/ pickN (raw.getD i 0) 2=1:=by omega
  show Old.gvalB ⟨3,pickN (raw.getD i 0) 2,⟨#[]⟩⟩=true
  generalize pickN (raw.getD i 0) 2=x at *
  rcases h3 with rfl | rfl<;>simp [Old.gvalB,nil_empty]
theorem valid_plan {raw:List Int} {rows:List (List V)} {ks:List K} (h:∀ i (h:i < rows.length),TRow raw i rows[i]) (hk:goodKeys ks 4) (h1:1 <= ks.length) (h4:ks.length <= 4):Old.ValidOK [⟨nameT,[1,1,2,3],oldRows rows⟩] (planOld nameT ks):=by
 have hcols:∀ N,Old.colsL [⟨nameT,[1,1,2,3],oldRows rows⟩] (List.take 0 N)=[]:=fun N=>rfl
 have htab:Old.tabK [⟨nameT,[1,1,2,3],oldRows rows⟩] nameT=[1,1,2,3]:=by simp [Old.tabK]
 have hcol1:Old.colsL [⟨nameT,[1,1,2,3],oldRows rows⟩] (List.take 1 (planOld nameT ks))=[[1,1,2,3]]:=by
  simp [planOld,Old.colsL,Old.grow,Old.nodeL,htab]
 refine ⟨⟨by simp [planOld],by simp [planOld]⟩,fun i j hi hj hij=>?_,fun i hi=>?_,⟨fun i hi=>?_,fun j hj=>?_,fun i hi=>?_⟩,fun i hi=>?_⟩
 ·simp at hi hj; omega
 ·have:i=0:=by simp at hi; omega
  subst this
  refine ⟨⟨by simp,by simp,fun j hj=>?_⟩,fun j hj=>?_⟩
  ·simp only [List.getElem_cons_zero,List.length_cons,List.length_nil] at hj
   match j,hj with
   | 0,_=>simp [Old.Kind3]
   | 1,_=>simp [Old.Kind3]
   | 2,_=>simp [Old.Kind3]
   | 3,_=>simp [Old.Kind3]
  ·simp only [List.getElem_cons_zero,oldRows,List.length_map] at hj
   simp only [List.getElem_cons_zero,oldRows,List.getElem_map]
   exact row_pair (h j hj)
 ·simp only [planOld,List.length_cons,List.length_nil] at hi
  match i,hi with
  | 0,_=>exact ⟨⟨by simp [planOld],by simp [planOld,Old.BareN,Old.BareR]⟩,fun x hx=>by simp [planOld,Old.ins] at hx⟩
  | 1,_=>exact ⟨⟨by simp [planOld],by simp [planOld,Old.BareN,Old.BareR,nil_empty]⟩,fun x hx=>by simp [planOld,Old.ins] at hx; subst hx; omega⟩
 ·have:j=0:=by simp [planOld] at hj; omega
  subst this
  simp [planOld,Old.asks,Old.ins]
 ·simp only [planOld,List.length_cons,List.length_nil] at hi
  match i,hi with
  | 0,_=>simp [planOld,Old.hF,Old.hts,Old.grow,Old.hOf]
  | 1,_=>simp [planOld,Old.hF,Old.hts,Old.grow,Old.hOf]
 ·simp only [planOld,List.length_cons,List.length_nil] at hi
  match i,hi with
  | 0,_=>
   intro _
   rw [hcols]
   simp only [planOld,List.getElem_cons_zero,Old.NodeOK,Old.nodeL,if_pos,htab]
   exact ⟨⟨0,by simp,rfl⟩,by simp,by simp⟩
  | 1,_=>
   intro _
   rw [hcol1]
   simp only [planOld,List.getElem_cons_succ,List.getElem_cons_zero,Old.NodeOK,Old.nodeL,Old.colsLeft]
   refine ⟨?_,by simp,by simp⟩
   simp only [show (2:Int)≠1 by decide,if_false,if_true]
   refine ⟨fun j hj=>?_,by simpa [Old.colsOf] using h1,by simpa [Old.colsOf] using h4⟩
   simp only [Old.colsOf,List.length_map] at hj
   simp only [Old.colsOf,List.getElem_map]
   exact hk ks[j] (List.getElem_mem hj)
theorem LOwn.at {w:World} {v:Value} {vs:List Value} (h:LOwn w v vs):LAt w v vs /\ ∀ o n c,v=.slice o n c -> n <= c /\ c <= maxLen:=by
 rcases h.2 with ⟨rfl,e⟩ | ⟨g,cap,cur,rfl,hb,hh,h1,h2,h3,h4⟩
 ·obtain rfl:vs=[]:=List.eq_nil_of_length_eq_zero e
  exact ⟨⟨_,_,rfl,.inl rfl⟩,fun o n c e=>by cases e; unfold maxLen; omega⟩
 ·refine ⟨⟨_,_,rfl,.inr ⟨g,0,cur,rfl,hh,h2,h1,fun i hi=>?_⟩⟩,fun o n c e=>by cases e; exact ⟨h1,h2⟩⟩
  have h5:(cur.toList.take (vs.length * 1))[i]?=some vs[i]:=by rw [h4]; exact List.getElem?_eq_getElem hi
  rw [List.getElem?_take_of_lt (by omega)] at h5
  simpa using h5
theorem kinds_in {w:World} {bk:Nat} (h:w.heap[bk]?=some (.cells kindsC 3 (0,0))):Old.IntsIn w [] (.slice (some ⟨bk,0,none⟩) 4 4) [1,1,2,3]:=by
 refine ⟨_,_,rfl,by simp,by unfold maxLen; omega,by simp [Old.ints],fun _=>⟨bk,0,rfl,by simp,fun j u hj=>?_⟩⟩
 simp only [World.cell?,h,Nat.zero_add]
 have hj':=(List.getElem?_eq_some_iff.1 hj).1
 simp only [Old.ints,List.length_map,List.length_cons,List.length_nil] at hj'
 match j,hj' with
 | 0,_=>simpa [Old.ints,kindsC] using hj
 | 1,_=>simpa [Old.ints,kindsC] using hj
 | 2,_=>simpa [Old.ints,kindsC] using hj
 | 3,_=>simpa [Old.ints,kindsC] using hj
structure AskIn (w:World) (gp bk:Nat) (sv kv:Value) (blk fan bud:Nat) (raw:List Int) (ks:List K) (vs:List Value) (rows:List (List V)):Prop where
 plan:PlanAt w gp nameT kv
 keys:KeysAt w kv ks
 kinds:w.heap[bk]?=some (.cells kindsC 3 (0,0))
 list:LOwn w sv vs
 len:vs.length=rows.length
 rowsAt:∀ i (_:i < vs.length) (_:i < rows.length),RowAt w vs[i] rows[i]
 trow:∀ i (h:i < rows.length),TRow raw i rows[i]
 num:rows.length <= 1000
 good:goodKeys ks 4
 k1:1 <= ks.length
 k4:ks.length <= 4
 b1:64 <= blk
 b2:blk <= 512
 f1:2 <= fan
 f2:fan <= 16
 u1:4 * blk <= bud
 u2:bud <= 100000
theorem AskIn.quiet {w w':World} {gp bk:Nat} {sv kv:Value} {blk fan bud:Nat} {raw:List Int} {ks:List K} {vs:List Value} {rows:List (List V)} (h:AskIn w gp bk sv kv blk fan bud raw ks vs rows) (t:Touch [] w w'):AskIn w' gp bk sv kv blk fan bud raw ks vs rows:=
 { h with plan:=h.plan.keep (t.tag0 _),keys:=h.keys.touch t,kinds:=t.tag0 _ _ _ _ h.kinds,list:=h.list.keep (t.tag0 _),rowsAt:=fun i a b=>(h.rowsAt i a b).touch t }
theorem room_enough {N:Nat} (h:N <= 1000):2 * N+((N * (N+1)+0)+1) <= 1048576+8192 * N:=by
 have:N * (N+1) <= 1000 * (N+1):=Nat.mul_le_mul_right _ h
 omega
theorem newS_ok (N:Nat):DiskOK (newS 4096 ((1048576+8192 * N:Nat):Int)):=by
 refine ⟨rfl,rfl,rfl,?_,?_,by simp [newS],by simp [newS]⟩
 ·intro i j x y hx; simp [newS] at hx
 ·intro f hf; simp [newS] at hf
theorem query_here {W:World} {gp bk g bx bm:Nat} {sv:Value} {kl kc2:Nat} {kvo:Option Addr} {blk fan bud:Nat} {raw:List Int} {ks:List K} {vs:List Value} {rows:List (List V)} (h:AskIn W gp bk sv (.slice kvo kl kc2) blk fan bud raw ks vs rows) (hg:W.heap[g]?=some (.cells #[.string nameT,.slice (some ⟨bk,0,none⟩) 4 4,sv] 70 (0,0))) (hp:PD W bx bm (newS 4096 ((1048576+8192 * rows.length:Nat):Int)) []) (hlow:bm <= bx) :
  Calls Tryz.prog 18 #[.slice (some ⟨g,0,none⟩) 1 1,.slice (some ⟨gp,0,none⟩) 2 2,.agg #[.int .i64 (blk:Int),.int .i64 (fan:Int),.int .i64 (bud:Int)],.pointer (some ⟨bx,0,none⟩)] W fun e w'=>∃ lv out,e=.returned (.tuple #[lv,.int .i64 0]) /\ Answered bm W w' lv out ks rows:=by
 have hn:=h.num
 obtain ⟨hL,hcap⟩:=h.list.at
 have hb1:=h.b1
 have hb2:=h.b2
 have hf1:=h.f1
 have hf2:=h.f2
 have hu1:=h.u1
 have hu2:=h.u2
 refine query_any W gp _ sv kl kc2 kvo nameT (some ⟨bk,0,none⟩) 4 4 bx bm blk fan bud 4 ks vs rows [1,1,2,3] _ [] rows.length 0 (1000000000 - rows.length) 0 ⟨h.plan,⟨⟨g,0,1,_,rfl,hg,by unfold maxLen; omega,by omega,rfl,rfl,rfl⟩⟩,h.keys,hL,h.len,h.rowsAt,hp,newS_ok _,rows_ok blk hb1 hn h.trow h.good,by omega,by omega,?_,by omega,by omega,hu1,by omega,hf1,by omega,by omega,fun k hk=>by simp [diskF,rowsOf] at hk; omega⟩ (kinds_in h.kinds) hcap (valid_plan h.trow h.good h.k1 h.k4) (by have:=h.k4; omega) (by simp) hb1 hf2 ⟨?_,?_,?_,?_⟩ (by omega) (by omega) (by omega)
 ·simp [newS]; omega
 ·simp [newS,usedOf]
 ·have hr:=room_enough hn
  show (0:Int)+((2 * rows.length+((rows.length * (rows.length+1)+0)+1):Nat):Int) <= max ((1048576+8192 * rows.length:Nat):Int) 0
  generalize 2 * rows.length+((rows.length * (rows.length+1)+0)+1)=x at *
  omega
 ·have hr:=room_enough hn
  show (0:Int)+((2 * rows.length+((rows.length * (rows.length+1)+0)+1):Nat):Int) <= 1000000000
  generalize 2 * rows.length+((rows.length * (rows.length+1)+0)+1)=x at *
  omega
 ·simp [newS]; omega
def tabC (bk:Nat) (sv:Value):Obj:=.cells #[.string nameT,.slice (some ⟨bk,0,none⟩) 4 4,sv] 70
def cfgC (blk fan bud:Nat):Obj:=.cells #[.int .i64 (blk:Int),.int .i64 (fan:Int),.int .i64 (bud:Int)] 51
def Six (W:World) (b0 b1 bk:Nat) (sv:Value) (blk fan bud:Nat):Prop:=
 (W.cell? ⟨b0,0,none⟩=some (.string nameT) /\ W.cell? ⟨b0,1,none⟩=some (.slice (some ⟨bk,0,none⟩) 4 4) /\ W.cell? ⟨b0,2,none⟩=some sv) /\ (W.cell? ⟨b1,0,none⟩=some (.int .i64 (blk:Int)) /\ W.cell? ⟨b1,1,none⟩=some (.int .i64 (fan:Int)) /\ W.cell? ⟨b1,2,none⟩=some (.int .i64 (bud:Int)))
theorem ask_gen (G:List (List V) -> Prop) (w:World) (gp N bk:Nat) (sv:Value) (blk fan bud:Nat) (vs:List Value) (rows:List (List V)) (hlist:LOwn w sv vs) (hlen:vs.length=rows.length) (hnum:rows.length <= 1000)
  (hq:∀ W g bx bm,Touch [] w W -> W.heap[g]?=some (.cells #[.string nameT,.slice (some ⟨bk,0,none⟩) 4 4,sv] 70 (0,0)) -> PD W bx bm (newS 4096 ((1048576+8192 * rows.length:Nat):Int)) [] -> bm <= bx -> Calls Tryz.prog 18 #[.slice (some ⟨g,0,none⟩) 1 1,.slice (some ⟨gp,0,none⟩) N N,.agg #[.int .i64 (blk:Int),.int .i64 (fan:Int),.int .i64 (bud:Int)],.pointer (some ⟨bx,0,none⟩)] W fun e w'=>∃ lv l,e=.returned (.tuple #[lv,.int .i64 0]) /\ Ans G bm W w' lv l) :
  Calls Tryz.prog 32 #[.agg #[.string nameT,.slice (some ⟨bk,0,none⟩) 4 4,sv],.slice (some ⟨gp,0,none⟩) N N,.agg #[.int .i64 (blk:Int),.int .i64 (fan:Int),.int .i64 (bud:Int)]] w fun e w'=>∃ lv l,e=.returned (.tuple #[lv,.int .i64 0]) /\ Ans G w.heap.size w w' lv l:=by
 obtain ⟨so,sn,sc,rfl⟩:=hlist.slice
 have hsn:sn=rows.length:=by
  obtain ⟨o,cap,e,_⟩:=hlist.at.1
  simp only [Value.slice.injEq] at e
  rw [e.2.1,hlen]
 have HL:Hid (∀ W0 W,Touch [] W0 W -> Calls Tryz.prog 39 #[.agg #[.string nameT,.slice (some ⟨bk,0,none⟩) 4 4,.slice so sn sc]] W fun e w'=>e=.returned (.int .i64 ((1048576+8192 * sn:Nat):Int)) /\ Touch [] W0 w' /\ Touch [] W w'):=fun W0 W t=>by
  refine (large_any W _ _ so sn sc (by omega)).mono ?_
  rintro e w' ⟨rfl,h1⟩
  exact ⟨rfl,t.trans h1,h1⟩
 have HN:Hid (∀ W0 W,Touch [] W0 W -> Calls Tryz.prog 15 #[.int .i64 4096,.int .i64 ((1048576+8192 * sn:Nat):Int)] W fun e w'=>∃ bx bm,e=.returned (.pointer (some ⟨bx,0,none⟩)) /\ (bm <= bx /\ W0.heap.size <= bm) /\ PD w' bx bm (newS 4096 ((1048576+8192 * rows.length:Nat):Int)) [] /\ Touch [] W0 w' /\ Touch [] W w'):=fun W0 W t=>by
  refine (pnew 4096 _ W).mono ?_
  rintro e w' ⟨rfl,h1,h2⟩
  rw [hsn] at h1
  exact ⟨_,_,rfl,⟨Nat.le_succ _,t.size⟩,h1,t.trans h2,h2⟩
 have hAB:∃ W0:World,∃ b0 b1,W0=(w.alloc (tabC bk (.slice so sn sc))).alloc (cfgC blk fan bud) /\ b0=w.heap.size /\ b1=w.heap.size+1:=⟨_,_,_,rfl,rfl,rfl⟩
 obtain ⟨W0,b0,b1,eW,e0,e1⟩:=hAB
 have hT0:Touch [] w W0:=by rw [eW]; exact ((Touch.refl [] _).alloc _).alloc _
 have hB0:W0.heap[b0]?=some (.cells #[.string nameT,.slice (some ⟨bk,0,none⟩) 4 4,.slice so sn sc] 70 (0,0)):=by
  rw [eW,e0]; exact (Below.heap_alloc _ _ _ (by simp)).trans (heap_alloc_new w _)
 have hB1:W0.heap[b1]?=some (.cells #[.int .i64 (blk:Int),.int .i64 (fan:Int),.int .i64 (bud:Int)] 51 (0,0)):=by
  rw [eW,e1]; exact new2 _ _ _
 have HK:Hid (∀ W,Touch [] W0 W -> Six W b0 b1 bk (.slice so sn sc) blk fan bud):=fun W t=>⟨box3 (t.tag0 70 _ _ _ hB0),box3 (t.tag0 51 _ _ _ hB1)⟩
 have HQ:Hid (∀ W g bx bm,Touch [] W0 W -> W.heap[g]?=some (.cells #[.string nameT,.slice (some ⟨bk,0,none⟩) 4 4,.slice so sn sc] 70 (0,0)) -> PD W bx bm (newS 4096 ((1048576+8192 * rows.length:Nat):Int)) [] -> (bm <= bx /\ W0.heap.size <= bm) ->
   Calls Tryz.prog 18 #[.slice (some ⟨g,0,none⟩) 1 1,.slice (some ⟨gp,0,none⟩) N N,.agg #[.int .i64 (blk:Int),.int .i64 (fan:Int),.int .i64 (bud:Int)],.pointer (some ⟨bx,0,none⟩)] W fun e w'=>∃ lo ln lc,e=.returned (.tuple #[.slice lo ln lc,.int .i64 0]) /\ (∃ l,Ans G w.heap.size w w' (.slice lo ln lc) l) /\ Six w' b0 b1 bk (.slice so sn sc) blk fan bud):=fun W g bx bm t hg hp hlow=>by
  refine (hq W g bx bm (hT0.trans t) hg hp hlow.1).mono ?_
  rintro e w' ⟨lv,l,rfl,hA⟩
  obtain ⟨lo,ln,lc,rfl⟩:=hA.list.elim fun _ h=>h.1.slice
  refine ⟨lo,ln,lc,rfl,⟨l,hA.good,hA.list,(hT0.trans t).kept.trans (hA.kept.mono (Nat.le_trans hT0.size hlow.2))⟩,⟨box3 (hA.kept.2 70 (by decide) (by decide) _ _ _ (t.tag0 70 _ _ _ hB0)),box3 (hA.kept.2 51 (by decide) (by decide) _ _ _ (t.tag0 51 _ _ _ hB1))⟩⟩
 have hl0:b0 < W0.heap.size:=(Array.getElem?_eq_some_iff.1 hB0).1
 have hl1:b1 < W0.heap.size:=(Array.getElem?_eq_some_iff.1 hB1).1
 have HNEW:Hid (∀ (W:World) (o:Obj),(W.alloc o).heap[W.heap.size]?=some o):=fun W o=>heap_alloc_new W o
 clear hB0 hB1 hT0 hq hlist hlen hnum hsn
 go_enter Tryz.func32,Tryz.ntmps32
 go_wp2
 change Code.wp _ _ _ _ ((w.alloc (tabC bk (.slice so sn sc))).alloc (cfgC blk fan bud))
 rw [<- eW]
 simp only [<- e1]
 simp only [<- e0]
 clear eW e0 e1
 obtain ⟨⟨c0,c1,c2⟩,⟨c3,c4,c5⟩⟩:=HK.out W0 (Touch.refl [] _)
 go_region_held3 (fun w'=>(w'.cell? ⟨b0,0,none⟩=some (.string nameT) /\ w'.cell? ⟨b0,1,none⟩=some (.slice (some ⟨bk,0,none⟩) 4 4) /\ w'.cell? ⟨b0,2,none⟩=some (.slice so sn sc)) /\ (w'.cell? ⟨b1,0,none⟩=some (.int .i64 (blk:Int)) /\ w'.cell? ⟨b1,1,none⟩=some (.int .i64 (fan:Int)) /\ w'.cell? ⟨b1,2,none⟩=some (.int .i64 (bud:Int)))) (go_keep) (first | (go_at_call 39; first | (refine (HL.out W0 _ ((Touch.refl [] W0).drew.alloc _)).mono ?_; rintro e wL ⟨rfl,hU,hT⟩; have HUL:Hid (Touch [] W0 wL):=hU; have HGL:Hid (wL.heap[W0.heap.size]?=some (.cells #[.string nameT,.slice (some ⟨bk,0,none⟩) 4 4,.slice so sn sc] 70 (0,0))):=hT.tag0 70 _ _ _ (HNEW.out W0.drew _); obtain ⟨⟨p0,p1,p2⟩,⟨p3,p4,p5⟩⟩:=HK.out wL hU; have pl0:=lt_of_cell p0; have pl1:=lt_of_cell p3; clear hU hT) | (refine (HL.out W0 _ ((Touch.refl [] W0).drew)).mono ?_; rintro e wL ⟨rfl,hU,hT⟩; have HUL:Hid (Touch [] W0 wL):=hU; obtain ⟨⟨p0,p1,p2⟩,⟨p3,p4,p5⟩⟩:=HK.out wL hU; have pl0:=lt_of_cell p0; have pl1:=lt_of_cell p3; clear hU hT)) | (go_at_call 15; first | (refine (HN.out W0 _ (HUL.out.alloc _)).mono ?_; rintro e wN ⟨bx,bm,rfl,hlow,hp,hU,hT⟩; have HGN:Hid (wN.heap[wL.heap.size]?=some (.cells #[.string nameT,.slice (some ⟨bk,0,none⟩) 4 4,.slice so sn sc] 70 (0,0))):=hT.tag0 70 _ _ _ (HNEW.out wL _); have HUN:Hid (Touch [] W0 wN):=hU; obtain ⟨⟨q0,q1,q2⟩,⟨q3,q4,q5⟩⟩:=HK.out wN hU; have ql0:=lt_of_cell q0; have ql1:=lt_of_cell q3; have HPN:Hid (PD wN bx bm (newS 4096 ((1048576+8192 * rows.length:Nat):Int)) []):=hp; have HLW:Hid (bm <= bx /\ W0.heap.size <= bm):=hlow; clear hp hU hT hlow) | (refine (HN.out W0 _ HUL.out).mono ?_; rintro e wN ⟨bx,bm,rfl,hlow,hp,hU,hT⟩; have HGN:Hid (wN.heap[W0.heap.size]?=some (.cells #[.string nameT,.slice (some ⟨bk,0,none⟩) 4 4,.slice so sn sc] 70 (0,0))):=hT.tag0 70 _ _ _ HGL.out; have HUN:Hid (Touch [] W0 wN):=hU; obtain ⟨⟨q0,q1,q2⟩,⟨q3,q4,q5⟩⟩:=HK.out wN hU; have ql0:=lt_of_cell q0; have ql1:=lt_of_cell q3; have HPN:Hid (PD wN bx bm (newS 4096 ((1048576+8192 * rows.length:Nat):Int)) []):=hp; have HLW:Hid (bm <= bx /\ W0.heap.size <= bm):=hlow; clear hp hU hT hlow) | (refine (HN.out W0 _ HUL.out).mono ?_; rintro e wN ⟨bx,bm,rfl,hlow,hp,hU,hT⟩; have HUN:Hid (Touch [] W0 wN):=hU; obtain ⟨⟨q0,q1,q2⟩,⟨q3,q4,q5⟩⟩:=HK.out wN hU; have ql0:=lt_of_cell q0; have ql1:=lt_of_cell q3; have HPN:Hid (PD wN bx bm (newS 4096 ((1048576+8192 * rows.length:Nat):Int)) []):=hp; have HLW:Hid (bm <= bx /\ W0.heap.size <= bm):=hlow; clear hp hU hT hlow)) | (go_at_call 18; first | (refine (HQ.out wN _ bx bm HUN.out HGN.out HPN.out HLW.out).mono ?_; rintro e wQ ⟨lo,ln,lc,rfl,hA,⟨⟨r0,r1,r2⟩,⟨r3,r4,r5⟩⟩⟩; have HANS:Hid (∃ l,Ans G w.heap.size w wQ (.slice lo ln lc) l):=hA; clear hA; have rl0:=lt_of_cell r0; have rl1:=lt_of_cell r3) | (refine (HQ.out _ wN.heap.size bx bm (HUN.out.alloc _) (HNEW.out wN _) (HPN.out.away ((Touch.refl [] _).alloc _) (fun _ _ h=>List.not_mem_nil h)) HLW.out).mono ?_; rintro e wQ ⟨lo,ln,lc,rfl,hA,⟨⟨r0,r1,r2⟩,⟨r3,r4,r5⟩⟩⟩; have HANS:Hid (∃ l,Ans G w.heap.size w wQ (.slice lo ln lc) l):=hA; clear hA; have rl0:=lt_of_cell r0; have rl1:=lt_of_cell r3)))
 all_goals
  obtain ⟨l,hA⟩:=HANS.out
  go_wp2
  go_ret2
  exact ⟨_,l,rfl,hA⟩
theorem ask_any (w:World) (gp bk:Nat) (sv:Value) (kl kc2:Nat) (kvo:Option Addr) (blk fan bud:Nat) (raw:List Int) (ks:List K) (vs:List Value) (rows:List (List V)) (h:AskIn w gp bk sv (.slice kvo kl kc2) blk fan bud raw ks vs rows) :
  Calls Tryz.prog 32 #[.agg #[.string nameT,.slice (some ⟨bk,0,none⟩) 4 4,sv],.slice (some ⟨gp,0,none⟩) 2 2,.agg #[.int .i64 (blk:Int),.int .i64 (fan:Int),.int .i64 (bud:Int)]] w fun e w'=>∃ lv out,e=.returned (.tuple #[lv,.int .i64 0]) /\ Answered w.heap.size w w' lv out ks rows:=by
 refine (ask_gen (fun l=>∃ out,out.Perm (recsOf rows) /\ Srt ks out /\ l=out.map Rec.row) w gp 2 bk sv blk fan bud vs rows h.list h.len h.num (fun W g bx bm t hg hp hlow=>?_)).mono ?_
 ·refine (query_here (h.quiet t) hg hp hlow).mono ?_
  rintro e w' ⟨lv,out,rfl,p1,p2,⟨vs',a,b,c⟩,hk⟩
  exact ⟨lv,_,rfl,⟨out,p1,p2,rfl⟩,⟨vs',a,by simpa using b,fun i hi hj=>by have:=c i hi (by simpa using hj); simpa using this⟩,hk⟩
 ·rintro e w' ⟨lv,l,rfl,⟨out,p1,p2,rfl⟩,⟨vs',a,b,c⟩,hk⟩
  exact ⟨lv,out,rfl,p1,p2,⟨vs',a,by simpa using b,fun i hi hj=>by have:=c i hi (by simpa using hj); simpa using this⟩,hk⟩
theorem out_at {out:List Rec} {rows:List (List V)} (h:out.Perm (recsOf rows)) (i:Nat) (hi:i < out.length):∃ k:Nat,∃ hk:k < rows.length,out[i].no=(k:Int) /\ out[i].row=rows[k]:=by
 have hm:out[i]∈recsOf rows:=h.mem_iff.1 (List.getElem_mem hi)
 obtain ⟨k,hk,e⟩:=List.getElem_of_mem hm
 have hk':k < rows.length:=by rw [recsOf_len] at hk; exact hk
 refine ⟨k,hk',?_,?_⟩<;>rw [<- e]<;>simp [recsOf]
theorem out_len {out:List Rec} {rows:List (List V)} (h:out.Perm (recsOf rows)):out.length=rows.length:=by rw [h.length_eq,recsOf_len]
theorem RowAt.cells {w:World} {v:Value} {row:List V} (h:RowAt w v row) (h1:1 <= row.length):∃ b off cap,v=.slice (some ⟨b,off,none⟩) row.length cap /\ row.length <= cap /\ cap <= maxLen /\ ∀ j (hj:j < row.length),w.cell? ⟨b,off+j * 3,none⟩=some (.int .i64 row[j].k) /\ w.cell? ⟨b,off+j * 3+1,none⟩=some (.int .i64 row[j].n) /\ w.cell? ⟨b,off+j * 3+1+1,none⟩=some (.string row[j].s):=by
 obtain ⟨ao,cap,rfl,hc,hm,hx⟩:=h
 obtain ⟨b,off,cs,f,rfl,hb,hx⟩:=hx (by simpa using h1)
 rw [List.length_map] at *
 refine ⟨b,off,cap,rfl,hc,hm,fun j hj=>?_⟩
 obtain ⟨x0,x1,x2⟩:=hx j (by simpa using hj)
 simp only [List.getElem_map,V.t] at x0 x1 x2
 simp only [World.cell?,hb]
 exact ⟨x0,x1,x2⟩
theorem Answered.cells {bs:Nat} {w w':World} {lo:Option Addr} {ln lc:Nat} {out:List Rec} {ks:List K} {rows:List (List V)} (h:Answered bs w w' (.slice lo ln lc) out ks rows):ln=out.length /\ (1 <= out.length -> ∃ g o,lo=some ⟨g,o,none⟩ /\ ∀ i (hi:i < out.length),∃ rv,w'.cell? ⟨g,o+i,none⟩=some rv /\ RowAt w' rv out[i].row):=by
 obtain ⟨vs,h1,h2,h3⟩:=h.list
 obtain ⟨o,cap,e,h4⟩:=h1.at.1
 simp only [Value.slice.injEq] at e
 obtain ⟨e1,e2,e3⟩:=e
 refine ⟨e2.trans h2,fun hn=>?_⟩
 rcases h4 with rfl | ⟨g,off,cs,rfl,hg,_,_,hcs⟩
 ·simp at h2; omega
 ·refine ⟨g,off,e1,fun i hi=>⟨vs[i]'(by omega),?_,h3 i (by omega) hi⟩⟩
  simp only [World.cell?,hg]
  rw [hcs i (by omega)]
  rfl
theorem raw_three (W:World):RawAt (W.alloc (.cells #[.int .i64 3] 3)) (.slice (some ⟨W.heap.size,0,none⟩) 1 1) [3]:=by
 refine ⟨fun x hx=>?_,by simp,_,_,rfl,fun _=>⟨_,_,rfl,fun j hj=>?_⟩⟩
 ·simp at hx; subst hx; unfold I64; omega
 ·have:j=0:=by simp at hj; omega
  subst this
  have hn:=heap_alloc_new W (.cells #[.int .i64 3] 3)
  simp only [World.cell?,hn]
  rfl
theorem keys_one (W:World):KeysAt (W.alloc (.cells #[.int .i64 1,.bool false,.bool false] 73)) (.slice (some ⟨W.heap.size,0,none⟩) 1 1) [⟨1,false,false⟩]:=by
 refine ⟨_,_,rfl,by simp,by unfold maxLen; omega,fun _=>⟨_,_,_,_,rfl,heap_alloc_new W _,fun i hi=>?_⟩⟩
 have:i=0:=by simp at hi; omega
 subst this
 exact ⟨rfl,rfl,rfl⟩
theorem aOf_three:aOf 3=⟨1,-7,⟨#[]⟩⟩:=by kernel_rfl
theorem ask_one (w w1 w2:World) (bk gp:Nat) (so:Option Addr) (sn sc:Nat) (hTab:∃ vs rows,Tabled (w.alloc (.cells #[.int .i64 3] 3)) w1 [3] bk (.slice so sn sc) vs rows) (hP:PlanAt w2 gp nameT (.slice (some ⟨w1.heap.size,0,none⟩) 1 1)) (hT:Touch [] (w1.alloc (.cells #[.int .i64 1,.bool false,.bool false] 73)) w2) :
  Calls Tryz.prog 32 #[.agg #[.string nameT,.slice (some ⟨bk,0,none⟩) 4 4,.slice so sn sc],.slice (some ⟨gp,0,none⟩) 2 2,.agg #[.int .i64 64,.int .i64 2,.int .i64 256]] w2 fun e w'=>∃ g o c rb off cap,e=.returned (.tuple #[.slice (some ⟨g,o,none⟩) 1 c,.int .i64 0]) /\ w'.cell? ⟨g,o,none⟩=some (.slice (some ⟨rb,off,none⟩) 4 cap) /\ (4 <= cap /\ cap <= maxLen) /\ (w'.cell? ⟨rb,off,none⟩=some (.int .i64 1) /\ w'.cell? ⟨rb,off+1,none⟩=some (.int .i64 (-7)) /\ w'.cell? ⟨rb,off+1+1,none⟩=some (.string ⟨#[]⟩)) /\ Kept w.heap.size w w':=by
 obtain ⟨vs,rows,h⟩:=hTab
 have t12:Touch [] w1 w2:=((Touch.refl [] _).alloc _).trans hT
 have hn:rows.length=1:=by rw [h.num]; rfl
 have hin:AskIn w2 gp bk (.slice so sn sc) (.slice (some ⟨w1.heap.size,0,none⟩) 1 1) 64 2 256 [3] [⟨1,false,false⟩] vs rows:=
  { plan:=hP,keys:=(keys_one w1).touch hT,kinds:=t12.tag0 _ _ _ _ h.kinds,list:=h.list.keep (t12.tag0 _),len:=h.len,rowsAt:=fun i a b=>(h.rowsAt i a b).touch t12,trow:=h.trow,num:=by omega,good:=fun y hy=>by simp at hy; subst hy; simp,k1:=by simp,k4:=by simp,b1:=by omega,b2:=by omega,f1:=by omega,f2:=by omega,u1:=by omega,u2:=by omega }
 refine (ask_any w2 gp bk _ 1 1 _ 64 2 256 [3] _ vs rows hin).mono ?_
 rintro e w' ⟨lv,out,rfl,hA⟩
 obtain ⟨lo,ln,lc,rfl⟩:=hA.list.elim fun _ h=>h.1.slice
 have hlen:out.length=1:=(out_len hA.perm).trans hn
 obtain ⟨e1,hx0⟩:=Answered.cells hA
 obtain ⟨g,o,rfl,hx⟩:=hx0 (by omega)
 obtain ⟨rv,c0,hr⟩:=hx 0 (by omega)
 obtain ⟨k,hk,_,hrow⟩:=out_at hA.perm 0 (by omega)
 obtain ⟨s,hs,er⟩:=h.trow k hk
 obtain rfl:k=0:=by omega
 rw [hrow,er] at hr
 obtain ⟨rb,off,cap,rfl,hc1,hc2,hx⟩:=hr.cells (by simp [rowOf])
 obtain ⟨x0,x1,x2⟩:=hx 0 (by simp [rowOf])
 have ea:(rowOf ([3].getD 0 0) 0 s)[0]'(by simp [rowOf])=⟨1,-7,⟨#[]⟩⟩:=aOf_three
 rw [ea] at x0 x1 x2
 simp only [Nat.zero_mul,Nat.add_zero] at x0 x1 x2 c0
 rw [hlen] at e1
 subst e1
 exact ⟨g,o,lc,rb,off,cap,rfl,c0,⟨hc1,hc2⟩,⟨x0,x1,x2⟩,(((Touch.refl [] _).alloc _).trans (h.touch.trans t12)).kept.trans (hA.kept.mono (((Touch.refl [] _).alloc _).trans (h.touch.trans t12)).size)⟩
theorem lives_any (w:World) :
  Calls Tryz.prog 31 #[] w fun e w'=>e=.returned (.bool true) /\ Kept w.heap.size w w':=by
 have HT:Hid (∀ W:World,Calls Tryz.prog 30 #[.slice (some ⟨W.heap.size,0,none⟩) 1 1] (W.alloc (.cells #[.int .i64 3] 3)) fun e w'=>∃ bk so sn sc,e=.returned (.agg #[.string nameT,.slice (some ⟨bk,0,none⟩) 4 4,.slice so sn sc]) /\ (∃ vs rows,Tabled (W.alloc (.cells #[.int .i64 3] 3)) w' [3] bk (.slice so sn sc) vs rows)):=fun W=>by
  refine (table_any _ _ [3] (raw_three W)).mono ?_
  rintro e w' ⟨bk,sv,vs,rows,rfl,h⟩
  obtain ⟨so,sn,sc,rfl⟩:=h.list.slice
  exact ⟨bk,so,sn,sc,rfl,vs,rows,h⟩
 have HW:Hid (∀ W ko kn kc,Calls Tryz.prog 33 #[nodeV (.slice ko kn kc)] W fun e w'=>∃ gp,e=.returned (.slice (some ⟨gp,0,none⟩) 2 2) /\ PlanAt w' gp nameT (.slice ko kn kc) /\ Touch [] W w'):=fun W ko kn kc=>with_any W ko kn kc
 unfold nodeV at HW
 have HWH:Hid (∀ n W,Calls Tryz.prog 61 #[.int .i64 n] W fun e w'=>e=.returned (.agg #[.int .i64 1,.int .i64 n,.string ⟨#[]⟩]) /\ Touch [] W w'):=fun n W=>by
  refine (whole_any n W).mono ?_
  rintro e w' ⟨rfl,hw⟩
  rw [hw]
  exact ⟨rfl,(Touch.refl [] _).alloc _⟩
 go_enter Tryz.func31,Tryz.ntmps31
 go_wp2_with (first | (go_at_call 30; refine (HT.out w).mono ?_; rintro e w1 ⟨bk,so,sn,sc,rfl,hTab⟩; have HTAB:Hid (∃ vs rows,Tabled (w.alloc (.cells #[.int .i64 3] 3)) w1 [3] bk (.slice so sn sc) vs rows):=hTab; clear hTab) | (go_at_call 33; refine (HW.out _ _ _ _).mono ?_; rintro e w2 ⟨gp,rfl,hP,hT⟩; have HPL:Hid (PlanAt w2 gp nameT (.slice (some ⟨w1.heap.size,0,none⟩) 1 1)):=hP; have HT2:Hid (Touch [] (w1.alloc (.cells #[.int .i64 1,.bool false,.bool false] 73)) w2):=hT; clear hP hT) | (go_at_call 32; refine (ask_one w w1 w2 bk gp so sn sc HTAB.out HPL.out HT2.out).mono ?_; rintro e w3 ⟨g,o,c,rb,off,cap,rfl,c0,hcap,⟨x0,x1,x2⟩,hK⟩; have HKP:Hid (Kept w.heap.size w w3):=hK; clear hK; obtain ⟨k1,k2⟩:=hcap))
 have HC:Hid (∀ W,Touch [] w3 W -> W.cell? ⟨g,o,none⟩=some (.slice (some ⟨rb,off,none⟩) 4 cap) /\ W.cell? ⟨rb,off,none⟩=some (.int .i64 1) /\ W.cell? ⟨rb,off+1,none⟩=some (.int .i64 (-7)) /\ W.cell? ⟨rb,off+1+1,none⟩=some (.string ⟨#[]⟩)):=fun W t=>⟨cell_touch c0 t,cell_touch x0 t,cell_touch x1 t,cell_touch x2 t⟩
 go_region_held3 (fun w'=>w'.cell? ⟨g,o,none⟩=some (.slice (some ⟨rb,off,none⟩) 4 cap) /\ w'.cell? ⟨rb,off,none⟩=some (.int .i64 1) /\ w'.cell? ⟨rb,off+1,none⟩=some (.int .i64 (-7)) /\ w'.cell? ⟨rb,off+1+1,none⟩=some (.string ⟨#[]⟩)) (go_keep) (first | (go_at_call 61; refine (HWH.out _ _).mono ?_; rintro e w4 ⟨rfl,hT4⟩; have HT4:Hid (Touch [] w3 w4):=((Touch.refl [] _).drew).trans hT4; clear hT4; obtain ⟨y0,y1,y2,y3⟩:=HC.out w4 HT4.out))
 all_goals
  go_wp2
  go_ret
  exact ⟨by rfl,HKP.out.trans HT4.out.kept⟩
end Go.Proofs.YtjoinhljdbljaaaGreat
