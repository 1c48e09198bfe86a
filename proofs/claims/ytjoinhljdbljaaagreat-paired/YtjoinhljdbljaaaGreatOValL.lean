/- A node's other fields; its inputs stand ahead. -/
import Derived.Test.YtjoinhljdbljaaaGreatOValDToOValK
set_option maxHeartbeats 40000000
set_option maxRecDepth 20000
namespace Go.Proofs.YtjoinhljdbljaaaGreat.Old
open Go.RowKit Go.Proofs.Tryz
theorem BO.op {op left right:Int}{tb:ByteArray}{keys:Nat}{count:Int}{cols others sums:Nat}:((1<=op/\op<=7)/\BR op left right tb keys count cols others sums)↔(1<=op/\op<=7)/\(op≠1->tb.toList.isEmpty=true)/\(op≠2->op≠3->keys=0)/\(op≠3->count=0)/\(op≠4->op≠5->op≠7->cols=0)/\(op≠4->op≠5->others=0)/\(op≠7->sums=0)/\(op=1->left=0)/\(op≠4->op≠5->right=0):=Iff.rfl
theorem otherFields_any (w:World)(n:VN)(p:NP)(hn:Nb w [] p n):Calls prog 98 #[nV n p] w (BP (BO n) w):=by
 obtain⟨op,lf,rt,tb,ks,ct,cols,ots,sums⟩:=n;obtain⟨kv,cv,ov,sv⟩:=p;obtain⟨h1,h2,h3,h4⟩:=hn;simp only at *;obtain⟨ao1,cap1,rfl,_,_,g1⟩:=h1.open;clear g1;obtain⟨ao2,cap2,rfl,_,_,g2⟩:=h2.open;clear g2;obtain⟨ao3,cap3,rfl,_,_,g3⟩:=h3.open;clear g3;obtain⟨ao4,cap4,rfl,_,_,g4⟩:=h4.open;clear g4;unfold nV BO BN;simp only;clear h1 h2 h3 h4;have HP:Hid (∀(b:Bool) w',(b=true↔(1<=op/\op<=7)/\BR op lf rt tb ks.length ct cols.length ots.length sums.length)->Below w.heap.size w w'->BP ((1<=op/\op<=7)/\BR op lf rt tb ks.length ct cols.length ots.length sums.length) w (.returned (.bool b)) w'):=λb w' h1 h2=>⟨b,rfl,h1,h2⟩;generalize ks.length=K,cols.length=C,ots.length=O,sums.length=S at *;go_enter func98,ntmps98;by_cases h1:op=1
 ·subst h1;go_wp2
  all_goals
   go_ret;refine HP.out _ _ ?_ (by repeat (first|exact Below.refl _ _|refine Below.alloc ?_ (by simp) _|refine Below.setCell ?_ (by simp) _));rw[BO.op];simp_all
  all_goals omega
 by_cases h2:op=2
 ·subst h2;go_wp2
  all_goals
   go_ret;refine HP.out _ _ ?_ (by repeat (first|exact Below.refl _ _|refine Below.alloc ?_ (by simp) _|refine Below.setCell ?_ (by simp) _));rw[BO.op];simp_all
  all_goals omega
 by_cases h3:op=3
 ·subst h3;go_wp2
  all_goals
   go_ret;refine HP.out _ _ ?_ (by repeat (first|exact Below.refl _ _|refine Below.alloc ?_ (by simp) _|refine Below.setCell ?_ (by simp) _));rw[BO.op];simp_all
  all_goals omega
 by_cases h4:op=4
 ·subst h4;go_wp2
  all_goals
   go_ret;refine HP.out _ _ ?_ (by repeat (first|exact Below.refl _ _|refine Below.alloc ?_ (by simp) _|refine Below.setCell ?_ (by simp) _));rw[BO.op];simp_all
  all_goals omega
 by_cases h5:op=5
 ·subst h5;go_wp2
  all_goals
   go_ret;refine HP.out _ _ ?_ (by repeat (first|exact Below.refl _ _|refine Below.alloc ?_ (by simp) _|refine Below.setCell ?_ (by simp) _));rw[BO.op];simp_all
  all_goals omega
 by_cases h6:op=6
 ·subst h6;go_wp2
  all_goals
   go_ret;refine HP.out _ _ ?_ (by repeat (first|exact Below.refl _ _|refine Below.alloc ?_ (by simp) _|refine Below.setCell ?_ (by simp) _));rw[BO.op];simp_all
  all_goals omega
 by_cases h7:op=7
 ·subst h7;go_wp2
  all_goals
   go_ret;refine HP.out _ _ ?_ (by repeat (first|exact Below.refl _ _|refine Below.alloc ?_ (by simp) _|refine Below.setCell ?_ (by simp) _));rw[BO.op];simp_all
  all_goals omega
 have e1:(op == 1)=false:=by simp[h1]
 have e2:(op == 2)=false:=by simp[h2]
 have e3:(op == 3)=false:=by simp[h3]
 have e4:(op == 4)=false:=by simp[h4]
 have e5:(op == 5)=false:=by simp[h5]
 have e6:(op == 6)=false:=by simp[h6]
 have e7:(op == 7)=false:=by simp[h7]
 have HH:Hid (¬(1<=op/\op<=7)):=by show ¬_;omega
 clear h1 h2 h3 h4 h5 h6 h7;go_wp2;go_ret;refine HP.out _ _ ?_ ((Below.refl _ _).alloc (e_ _) _);have hh:=HH.out;simp[hh]
end Go.Proofs.YtjoinhljdbljaaaGreat.Old
