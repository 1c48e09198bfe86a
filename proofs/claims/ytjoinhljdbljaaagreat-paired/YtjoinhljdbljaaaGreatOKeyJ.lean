/- A block of structs of three cells each: made, copied into, stored into. -/
import Derived.Test.YtjoinhljdbljaaaGreatOKeyI
import Derived.Deep.QuietTactic
import Derived.BigQuiet
namespace Go.Proofs.YtjoinhljdbljaaaGreat.Old
open Go.RowKit
theorem t3s_get (l:List T3):∀i (h:i<l.length),(t3s l)[i*3]?=some l[i].1/\(t3s l)[i*3+1]?=some l[i].2.1/\(t3s l)[i*3+1+1]?=some l[i].2.2:=by
 induction l with
 | nil=>intro i hi;simp at hi
 | cons t l ih=>
  intro i hi;cases i with
  | zero=>simp[t3s]
  | succ i=>
   obtain⟨a,b,c⟩:=ih i (by simpa using hi);have e:t3s (t::l)=t.1::t.2.1::t.2.2::t3s l:=by simp[t3s]
   rw[e,show(i+1)*3=i*3+1+1+1 from by omega];simp only[List.getElem?_cons_succ,List.getElem_cons_succ];exact⟨a,b,c⟩
end Go.Proofs.YtjoinhljdbljaaaGreat.Old
