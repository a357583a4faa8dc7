/- The texts Ask Cut. -/
import Derived.Test.YtklenjmfalljgabGreatDoorM00
import Derived.Test.YtklenjmfalljgabGreatDoorM05
import Derived.Test.YtklenjmfalljgabGreatDoorM06
import Derived.Test.YtklenjmfalljgabGreatDoorM07
import Derived.Deep.DeepCutAuto
namespace Go.Proofs.YtklenjmfalljgabGreatDoor
set_option maxRecDepth 100000
set_option maxHeartbeats 8000000
section
open Go.RowKit
attribute [local go_sem] Go.World.cell?_alloc_some nZ
theorem nu(n:Int)(w:World):Calls Tryz.prog 23 #[.int .i64 n] w fun e w'=>e= .returned (.int .i64 n)/\w'=w:=by
 go_enter Tryz.func23,Tryz.ntmps23
 go_wp2_with fail
 go_ret;exact⟨rfl,rfl⟩
def ResV(p:List (List Ins))(s:List Int)(B:Nat)(w:World)(rv:Value)(c:Int):Prop:=
 ∃ k t a v0 v1 v2 v3 x1 x3 y1 y3 m q,rv= .agg #[.int .i64 k,.int .i64 t,.int .i64 a,.slice x1 m x3,.int .i64 v0,.int .i64 v1,.int .i64 v2,.int .i64 v3,.slice y1 q y3]/\c=checkRunN p s/\
  ((c=0/\k=(runS p s).kind/\t=(runS p s).thread/\a=(runS p s).at_/\v0=(runS p s).st.vars 0/\v1=(runS p s).st.vars 1/\v2=(runS p s).st.vars 2/\v3=(runS p s).st.vars 3/\m=(runS p s).steps.length/\q=p.length/\
   w.ownsRow B 76 2 (.slice x1 m x3) (runS p s).steps.length (flatS (runS p s).steps)/\w.ownsRow B 28 4 (.slice y1 q y3) p.length (regsF p.length (runS p s).st))\/
   (c≠0/\k=0/\t=0/\a=0/\v0=0/\v1=0/\v2=0/\v3=0/\m=0/\q=0/\x1=none/\x3=0/\y1=none/\y3=0))
theorem qh{w:World}{base:Nat}{e:TypeId}{b:Nat}{a:Option Addr}{m c n:Nat}{xs:List Value}(h:w.ownsRow base e b (.slice a m c) n xs):m=n:=by
 rcases h.2 with ⟨e1,e2⟩ | ⟨g',cap',cur,hv,_⟩
 ·simp only [Value.slice.injEq]at e1;rw [e1.2.1];first | exact e2.symm | omega
 ·simp only [Value.slice.injEq]at hv;exact hv.2.1
theorem Replayed.form{p:List (List Ins)}{s:List Int}{w w':World}{e:Ending}(h:Replayed p s w e w'):w.grownBy w' none/\∃ rv c,e= .returned (.tuple #[rv,.int .i64 c])/\ResV p s w.heap.size w' rv c:=by
 obtain⟨a,h⟩:=h;refine⟨a,?_⟩;rcases h with ⟨h0,rv,rfl,sv,gv,rfl,h1,h2⟩ | ⟨h0,rfl⟩
 ·obtain⟨x1,m,x3,rfl⟩:=iw h1;obtain⟨y1,q,y3,rfl⟩:=iw h2;exact⟨_,_,rfl,_,_,_,_,_,_,_,_,_,_,_,_,_,rfl,h0.symm,Or.inl ⟨rfl,rfl,rfl,rfl,rfl,rfl,rfl,rfl,qh h1,qh h2,h1,h2⟩⟩
 ·exact⟨_,_,rfl,_,_,_,_,_,_,_,_,_,_,_,_,_,rfl,rfl,Or.inr ⟨h0,rfl,rfl,rfl,rfl,rfl,rfl,rfl,rfl,rfl,rfl,rfl,rfl,rfl⟩⟩
theorem ResV.same{p:List (List Ins)}{s:List Int}{B i:Nat}{w w':World}{rv f:Value}{c e:Int}(h:ResV p s B w rv c)(b:ResV p s i w' f e):
  c=e/\∃ k t a v0 v1 v2 v3 x1 x3 y1 y3 m q x1' x3' y1' y3',rv= .agg #[.int .i64 k,.int .i64 t,.int .i64 a,.slice x1 m x3,.int .i64 v0,.int .i64 v1,.int .i64 v2,.int .i64 v3,.slice y1 q y3]/\
   f= .agg #[.int .i64 k,.int .i64 t,.int .i64 a,.slice x1' m x3',.int .i64 v0,.int .i64 v1,.int .i64 v2,.int .i64 v3,.slice y1' q y3']:=by
 obtain⟨k,t,a,v0,v1,v2,v3,x1,x3,y1,y3,m,q,rfl,hc,h⟩:=h;obtain⟨k',t',a',v0',v1',v2',v3',x1',x3',y1',y3',m',q',rfl,d,b⟩:=b;refine⟨hc.trans d.symm,?_⟩;rcases h with ⟨h0,rfl,rfl,rfl,rfl,rfl,rfl,rfl,rfl,rfl,_⟩ | ⟨h0,rfl,rfl,rfl,rfl,rfl,rfl,rfl,rfl,rfl,_⟩
 ·rcases b with ⟨h0',rfl,rfl,rfl,rfl,rfl,rfl,rfl,rfl,rfl,_⟩ | ⟨h0',_⟩
  ·exact⟨_,_,_,_,_,_,_,_,_,_,_,_,_,_,_,_,_,rfl,rfl⟩
  ·exact absurd (d.trans (hc.symm.trans h0)) h0'
 ·rcases b with ⟨h0',_⟩ | ⟨h0',rfl,rfl,rfl,rfl,rfl,rfl,rfl,rfl,rfl,_⟩
  ·exact absurd (hc.trans (d.symm.trans h0')) h0
  ·exact⟨_,_,_,_,_,_,_,_,_,_,_,_,_,_,_,_,_,rfl,rfl⟩
end
end Go.Proofs.YtklenjmfalljgabGreatDoor
