/- A value read back out of its bytes, and what follows. -/
import Derived.Test.YtjoinhljdbljaaaGreatRecF
import Derived.Laws.ResultCell
set_option maxHeartbeats 1000000
set_option maxRecDepth 20000
namespace Go.Proofs.YtjoinhljdbljaaaGreat
open Go.RowKit Go.Proofs.Tryz
abbrev BA (l:List UInt8):ByteArray:=⟨l.toArray⟩
theorem B_ (l:List UInt8):(BA l).size=l.length:=by simp[ByteArray.size]
theorem BA_mid (l:List UInt8)(i j:Nat):(BA l).extract i j=BA ((l.take j).drop i):=by
 apply ByteArray.ext;simp[List.drop_take]
theorem Bd (l:List UInt8)(i:Nat):(BA l).extract i (BA l).size=BA (l.drop i):=by
 rw[BA_mid,B_,bf_]
theorem BA_get (l:List UInt8)(i:Nat)(h:i<(BA l).size):(BA l)[i]=l[i]'(by rw[B_]at h;exact h):=rfl
theorem BA_self (s:ByteArray):BA s.data.toList=s:=by cases s;simp[BA]
theorem wrap_un' (n:Int)(h:I64 n):IntKind.i64.wrap ((un n:Nat):Int)=n:=by
 rw[IntKind.wrap_i64];unfold I64 at h;unfold un;omega
theorem wO (u:Nat)(hu:u<18446744073709551616)(l:List UInt8)(w:World):Calls prog 193 #[.string (BA (eu u++l))] w λe w'=>e=.returned (.int .u64 (u:Int))/\w'=w:=by
 refine wordsOf_any _ u hu (by rw[B_,c_,eF];omega) (λj hj=>?_) w;rw[BA_get];rw[G_ (by rw[eF];exact hj)];simp[eu]
theorem takeInt_any (n:Int)(hn:I64 n)(l:List UInt8)(w:World) :
  Calls prog 194 #[.string (BA (1::(eu (un n)++l)))] w λe w'=>e=.returned (.tuple #[.agg #[.int .i64 1,.int .i64 n,.string ⟨#[]⟩],.string (BA l)])/\Touch [] w w':=by
 have e1:(BA (1::(eu (un n)++l))).extract 1 (BA (1::(eu (un n)++l))).size=BA (eu (un n)++l):=Bd _ 1;have e2:(BA (eu (un n)++l)).extract 8 (BA (eu (un n)++l)).size=BA l:=by
  rw[Bd,aq_ (by rw[eF];omega),O_ (by rw[eF];omega)];rfl
 have z1:1<=(BA (1::(eu (un n)++l))).size:=by rw[B_];simp
 have z2:8<=(BA (eu (un n)++l)).size:=by rw[B_,c_,eF];omega
 have g0:(BA (1::(eu (un n)++l)))[0]=1:=rfl;have HW:Hid (∀w,Calls prog 193 #[.string (BA (eu (un n)++l))] w λe w'=>e=.returned (.int .u64 (un n:Int))/\w'=w):=λw=>wO (un n) (un_lt n) l w;have hw:=wrap_un' n hn;have z1i:(1:Int)<=((BA (1::(eu (un n)++l))).size:Int):=by omega
 have z2i:(8:Int)<=((BA (eu (un n)++l)).size:Int):=by omega
 generalize BA (1::(eu (un n)++l))=s at *;generalize BA (eu (un n)++l)=s1 at *;generalize BA l=s2 at *;generalize un n=u at *;go_enter func194,ntmps194;go_wp2
 go_region_held3 (λ_=>True) (go_keep) (first|(go_at_call 193;refine(HW.out _).mono ?_;rintro e w1 ⟨rfl,rfl⟩))
 go_wp2;exact bodyPost_ret (v:=.tuple #[.agg #[.int .i64 1,.int .i64 n,.string ⟨#[]⟩],.string s2]) (by simp[results,results194,go_sem]) rfl ⟨rfl,((Touch.refl _ _).alloc _).drew⟩
theorem Touch.onto {F G:List Nat}{a b c:World}(h:Touch F a b)(k:Touch G b c)(hG:∀i∈G,i∈F\/a.heap.size<=i):Touch F a c:=
 ⟨k.os.trans h.os,k.tape.trans h.tape,k.output.trans h.output,k_ h.size k.size,λi hi hn=>(k.block i (s_ hi h.size) (λe=>by rcases hG i e with h|h;exact hn h;omega)).trans (h.block i hi hn)⟩
theorem takeNull_any (l:List UInt8)(w:World) :
  Calls prog 194 #[.string (BA (0::l))] w λe w'=>e=.returned (.tuple #[.agg #[.int .i64 0,.int .i64 0,.string ⟨#[]⟩],.string (BA l)])/\Touch [] w w':=by
 have e1:(BA (0::l)).extract 1 (BA (0::l)).size=BA l:=Bd _ 1;have z1:1<=(BA (0::l)).size:=by rw[B_];simp
 have g0:(BA (0::l))[0]=0:=rfl;have z1i:(1:Int)<=((BA (0::l)).size:Int):=by omega
 generalize BA (0::l)=s at *;generalize BA l=s1 at *;go_enter func194,ntmps194;go_wp2;exact bodyPost_ret (v:=.tuple #[.agg #[.int .i64 0,.int .i64 0,.string ⟨#[]⟩],.string s1]) (by simp[results,results194,go_sem]) rfl ⟨rfl,(Touch.refl _ _).alloc _⟩
theorem takeFlag_any (b:UInt8)(n:Int)(hb:(b.toNat:Int)=n)(l:List UInt8)(w:World) :
  Calls prog 194 #[.string (BA (3::b::l))] w λe w'=>e=.returned (.tuple #[.agg #[.int .i64 3,.int .i64 n,.string ⟨#[]⟩],.string (BA l)])/\Touch [] w w':=by
 have e1:(BA (3::b::l)).extract 1 (BA (3::b::l)).size=BA (b::l):=Bd _ 1;have e2:(BA (b::l)).extract 1 (BA (b::l)).size=BA l:=Bd _ 1;have z1:1<=(BA (3::b::l)).size:=by rw[B_];simp
 have z2:1<=(BA (b::l)).size:=by rw[B_];simp
 have g0:(BA (3::b::l))[0]=3:=rfl;have g1:(BA (b::l))[0]=b:=rfl;have z1i:(1:Int)<=((BA (3::b::l)).size:Int):=by omega
 have z2i:(1:Int)<=((BA (b::l)).size:Int):=by omega
 have z2l:(0:Int)<((BA (b::l)).size:Int):=by omega
 have hn1:0<=n:=by omega
 have hn2:n<256:=by have:=b.toNat_lt;omega
 generalize BA (3::b::l)=s at *;generalize BA (b::l)=s1 at *;generalize BA l=s2 at *;go_enter func194,ntmps194;go_wp2
 go_region
 all_goals go_wp2
 all_goals exact bodyPost_ret (v:=.tuple #[.agg #[.int .i64 3,.int .i64 n,.string ⟨#[]⟩],.string s2]) (by simp[results,results194,go_sem]) rfl ⟨rfl,((Touch.refl _ _).alloc _).drew⟩
theorem takeText_any (t:ByteArray)(ht:t.size<=200)(l:List UInt8)(w:World) :
  Calls prog 194 #[.string (BA (2::0::UInt8.ofNat t.size::(t.data.toList++l)))] w λe w'=>e=.returned (.tuple #[.agg #[.int .i64 2,.int .i64 0,.string t],.string (BA l)])/\Touch [] w w':=by
 have htl:t.data.toList.length=t.size:=by rw[af_];rfl
 have e1:(BA (2::0::UInt8.ofNat t.size::(t.data.toList++l))).extract 1 (BA (2::0::UInt8.ofNat t.size::(t.data.toList++l))).size=BA (0::UInt8.ofNat t.size::(t.data.toList++l)):=Bd _ 1;have e2:(BA (0::UInt8.ofNat t.size::(t.data.toList++l))).extract 2 (2+t.size)=t:=by
  rw[BA_mid];simp only[Nat.add_comm 2 t.size,List.take_succ_cons,List.drop_succ_cons,List.drop_zero];rw[<-htl,List.take_left,BA_self]
 have e3:(BA (0::UInt8.ofNat t.size::(t.data.toList++l))).extract (2+t.size) (BA (0::UInt8.ofNat t.size::(t.data.toList++l))).size=BA l:=by
  rw[Bd];simp only[Nat.add_comm 2 t.size,List.drop_succ_cons];rw[<-htl,List.drop_left]
 have z1:0<(BA (2::0::UInt8.ofNat t.size::(t.data.toList++l))).size:=by rw[B_];simp
 have z2:2+t.size<=(BA (0::UInt8.ofNat t.size::(t.data.toList++l))).size:=by have h:=B_ (0::UInt8.ofNat t.size::(t.data.toList++l));simp only[List.length_cons,c_,htl]at h;omega
 have z3:0<(BA (0::UInt8.ofNat t.size::(t.data.toList++l))).size:=by omega
 have z4:1<(BA (0::UInt8.ofNat t.size::(t.data.toList++l))).size:=by omega
 have g0:(BA (2::0::UInt8.ofNat t.size::(t.data.toList++l)))[0]'z1=2:=rfl;have g1:(BA (0::UInt8.ofNat t.size::(t.data.toList++l)))[0]'z3=0:=rfl;have g2:((BA (0::UInt8.ofNat t.size::(t.data.toList++l)))[1]'z4).toNat=t.size:=by
  show(UInt8.ofNat t.size).toNat=t.size;rw[UInt8.toNat_ofNat'];omega
 have z1i:(1:Int)<=((BA (2::0::UInt8.ofNat t.size::(t.data.toList++l))).size:Int):=by omega
 have z2i:(2:Int)+(t.size:Int)<=((BA (0::UInt8.ofNat t.size::(t.data.toList++l))).size:Int):=by omega
 have z3i:(0:Int)<((BA (0::UInt8.ofNat t.size::(t.data.toList++l))).size:Int):=by omega
 have z4i:(1:Int)<((BA (0::UInt8.ofNat t.size::(t.data.toList++l))).size:Int):=by omega
 obtain⟨m,hm⟩:∃m,m=2+t.size:=⟨_,rfl⟩;rw[<-hm]at e2 e3 z2;have hmi:(2:Int)+(t.size:Int)=(m:Int):=by omega
 rw[hmi]at z2i;have hm2:(2:Int)<=(m:Int):=by omega
 have hm3:m<=300:=by omega
 clear hm;have HC:Hid (∀w,Calls prog 216 #[.string t] w λe w'=>e=.returned (.string t)/\Touch [] w w'):=λw=>clone_any t w (by omega);generalize BA (2::0::UInt8.ofNat t.size::(t.data.toList++l))=s at *;generalize BA (0::UInt8.ofNat t.size::(t.data.toList++l))=s1 at *;generalize BA l=s2 at *;go_enter func194,ntmps194;go_wp2
 go_region
 go_wp2
 go_region_held3 (λ_=>True) (go_keep) (first|(go_at_call 216;refine(HC.out _).mono ?_;rintro e w1 ⟨rfl,hT1⟩;have hbx:w1.heap[w.heap.size]?=some (.cells #[.int .i64 0,.int .i64 0,.string ⟨#[]⟩] 85 (0,0)):=(hT1.block w.heap.size (by simp) (by simp)).trans (heap_alloc_new w _);obtain⟨x0,x1,x2⟩:=bD hbx;have y0:w1.frozen? ⟨w.heap.size,0,none⟩=false:=(by simp[World.frozen?,hbx]);have y1:w1.frozen? ⟨w.heap.size,1,none⟩=false:=(by simp[World.frozen?,hbx]);have y2:w1.frozen? ⟨w.heap.size,2,none⟩=false:=(by simp[World.frozen?,hbx]);clear hbx))
 go_wp2;refine bodyPost_ret (v:=.tuple #[.agg #[.int .i64 2,.int .i64 0,.string t],.string s2]) (by simp[results,results194,go_sem,x0,x1,x2]) rfl ⟨rfl,?_⟩;have h1:Touch [] w w1:=((((tr_.alloc _).drew).drew).trans hT1);exact h1.onto (((((Touch.refl [w.heap.size] w1).setCell (p:=⟨w.heap.size,0,none⟩) (by simp) _).setCell (p:=⟨w.heap.size,1,none⟩) (by simp) _).setCell (p:=⟨w.heap.size,2,none⟩) (by simp) _)) (λi hi=>.inr (by simp at hi;omega))
theorem takeVal_any (v:V)(hv:Fair v)(l:List UInt8)(w:World) :
  Calls prog 194 #[.string (BA (eH v++l))] w λe w'=>e=.returned (.tuple #[v.val,.string (BA l)])/\Touch [] w w':=by
 obtain⟨k,n,s⟩:=v;unfold eH encBody V.val;rcases hv with⟨h1,h2,h3⟩|⟨h1,h2,h3⟩|⟨h1,h2,h3⟩|⟨h1,h2,h3⟩
 ·simp only at h1 h2 h3;subst h1 h2 h3;exact takeNull_any l w
 ·simp only at h1 h2 h3;subst h1 h3;exact takeInt_any n h2 l w
 ·simp only at h1 h2 h3;subst h1 h2;exact takeText_any s h3 l w
 ·simp only at h1 h2 h3;subst h1 h3;rcases h2 with rfl|rfl
  ·exact takeFlag_any 0 0 rfl l w
  ·exact takeFlag_any 1 1 rfl l w
end Go.Proofs.YtjoinhljdbljaaaGreat
