/- The texts Fha Fhb. -/
import Derived.Test.YtklenjmfalljgabGreatDoorM00
import Derived.Test.YtklenjmfalljgabGreatDoorM05
import Derived.Maps.Own
import Derived.Maps.OwnOps
import Derived.Maps.Views
import Derived.DeepKeys4
namespace Go.Proofs.YtklenjmfalljgabGreatDoor
set_option maxRecDepth 100000
set_option maxHeartbeats 8000000
section
open Go.RowKit Go.Maps
abbrev Use:=Nat × Nat × Bool
def useV(u:Use):Value:= .agg #[.int .i64 u.1,.int .i64 u.2.1,.bool u.2.2]
def useL(u:Use):Lit:= .string (keyBytes [.int .i64 u.1,.int .i64 u.2.1,.bool u.2.2])
def smallU(u:Use):Prop:=u.1<=1000/\u.2.1<=1000
theorem qU:Keyed Tryz.prog 240:=Keyed.of_law (deep_law_laid (by kernel_rfl) (m:=Tryz.prog.types.size+1) (of_decide_eq_true (by kernel_rfl)) (of_decide_eq_true (by kernel_rfl)) (by kernel_rfl) (by kernel_rfl))
theorem zF(w:World):(zeroValue 3).run Tryz.prog w= .ok (.int .i64 0) w:=by kernel_rfl
theorem pq{n:Nat}(h:n<=1000000):(Lit.int .i64 (n:Int)).wf=true:=WalkArith.wf_i64 (by omega)
theorem od{u:Use}(h:smallU u):keyOf Tryz.prog 240 (useV u)=some (useL u):=by
 have k1:Tryz.prog.keyType 240=true:=by kernel_rfl
 have f:=pq (n:=u.1) (by have:=h.1;omega);have i:=pq (n:=u.2.1) (by have:=h.2;omega);obtain⟨m,e⟩:∃ m,Tryz.prog.types.size+1=m+2:=⟨Tryz.prog.types.size - 1,by have:2<=Tryz.prog.types.size:=of_decide_eq_true (by kernel_rfl);omega⟩;have c1:Tryz.prog.cellsOf 240=3:=by kernel_rfl
 have a:Tryz.prog.cellsOf 238=1:=by kernel_rfl
 have b:Tryz.prog.cellsOf 3=1:=by kernel_rfl
 have c:Tryz.prog.cellsOf 4=1:=by kernel_rfl
 have j:Tryz.prog.keyLits (m+1) 238 [.int .i64 (u.1:Int)]=some [.int .i64 (u.1:Int)]:=by
  unfold Program.keyLits;rw [Tryz.underlying238];simp only [f,and_self,if_true]
 have k:Tryz.prog.keyLits (m+1) 3 [.int .i64 (u.2.1:Int)]=some [.int .i64 (u.2.1:Int)]:=by
  unfold Program.keyLits;rw [Tryz.underlying3];simp only [i,and_self,if_true]
 have l:Tryz.prog.keyLits (m+1) 4 [.bool u.2.2]=some [.bool u.2.2]:=by
  unfold Program.keyLits;rw [Tryz.underlying4]
 have o:Tryz.prog.keyLits (m+2) 240 [.int .i64 (u.1:Int),.int .i64 (u.2.1:Int),.bool u.2.2]=some [.int .i64 (u.1:Int),.int .i64 (u.2.1:Int),.bool u.2.2]:=by
  unfold Program.keyLits;rw [Tryz.underlying240]
  simp only;rw [if_pos ⟨by rw [c1];rfl,by simp⟩];simp only [List.mapM_cons,List.mapM_nil,a,b,c,List.drop_zero,List.drop_succ_cons,List.take_succ_cons,List.take_zero,j,k,l];rfl
 have d:(useV u).formed Tryz.prog 240=true:=by
  unfold Value.formed useV;rw [Tryz.underlying240];simp only [c1];rfl
 unfold keyOf;rw [Tryz.underlying240];simp only [k1,d,Bool.and_self,if_true,e];have hc:(useV u).cells.toList=[.int .i64 (u.1:Int),.int .i64 (u.2.1:Int),.bool u.2.2]:=rfl;rw [hc,o];rfl
theorem zy{u v:Use}(c:smallU u)(d:smallU v)(h:useL u=useL v):u=v:=by
 have b:=od c;have a:=od d;rw [<-h]at a;have:=qU.inj b a;unfold useV at this;simp at this;obtain⟨u1,u2,u3⟩:=u;obtain⟨v1,v2,v3⟩:=v;simp at this ⊢;exact⟨by omega,by omega,this.2.2⟩
def HistAt(w:World)(b n:Nat)(F:Use->Nat):Prop:=
 ∃ D:DataW Unit,w.ownsMap Tryz.prog 240 (plainElem Tryz.prog 3) b n D/\∀ u,smallU u->D.atKey (useL u) (.lit (.int .i64 0))= .lit (.int .i64 (F u))
theorem HistAt.made(w:World):HistAt (w.alloc (.map #[] 0)) w.heap.size 0 (fun _=>0):=⟨.map [],World.ownsMap_made _ _ _ _,fun _ _=>rfl⟩
theorem HistAt.kept{w w':World}{b n:Nat}{F:Use->Nat}(h:HistAt w b n F)(d:w.grownBy w' none):HistAt w' b n F:=by
 obtain⟨D,a,c⟩:=h;exact⟨D,a.kept d (by simp),c⟩
theorem HistAt.lt{w:World}{b n:Nat}{F:Use->Nat}(h:HistAt w b n F):b<w.heap.size:=by
 obtain⟨D,a,h2⟩:=h;exact a.lt
theorem HistAt.look{w:World}{b n:Nat}{F:Use->Nat}(h:HistAt w b n F){u:Use}(d:smallU u):
  (Instr.lookup 205 (.map (some b)) (useV u) false).run Tryz.prog w= .ok (.int .i64 (F u)) w:=by
 obtain⟨D,e,f⟩:=h;obtain⟨c,i,a,_⟩:=e.lookup_int qU Tryz.underlying205 Tryz.underlying3 (zF w) (od d);rw [f u d]at a;simp at a;rw [i,<-a]
def putF(F:Use->Nat)(u:Use)(x:Nat):Use->Nat:=fun v=>if v=u then x else F v
theorem HistAt.put{w:World}{b n:Nat}{F:Use->Nat}(h:HistAt w b n F){u:Use}(c:smallU u){x:Nat}(k:x<=1000000)(hn:n<=1000000):
  ∃ w',(Instr.mapUpdate 205 (.map (some b)) (useV u) (.int .i64 (x:Int))).run Tryz.prog w= .ok () w'/\HistAt w' b (n+1) (putF F u x)/\w.grownBy w' (some b):=by
 obtain⟨D,a,d⟩:=h;obtain⟨w',j,i,f⟩:=a.update qU Tryz.underlying205 (by unfold maxLen;omega) (od c) (plainElem_int Tryz.underlying3 (pq k));refine⟨w',j,⟨_,i,fun v hv=>?_⟩,f⟩;unfold putF;by_cases e:v=u
 ·subst e;rw [if_pos rfl];refine atKey_put_same ?_ ?_ _ _
  ·obtain⟨es,_,_,_,_,rfl⟩:=a;exact⟨_,rfl⟩
  ·exact trivial
 ·rw [if_neg e,atKey_put_other (fun e2=>e (zy hv c e2))];exact d v hv
end
section
open Go.RowKit Go.Maps
attribute [local go_sem] Go.World.cell?_alloc_some
def UsesAt(w:World)(v:Value)(us:List Use):Prop:=
 ∃ g cap,v= .slice (some ⟨g,0,none⟩) us.length cap/\g<w.heap.size/\∀ k (hk:k<us.length),w.cell? ⟨g,k*3,none⟩=some (.int .i64 (us[k].1:Int))/\w.cell? ⟨g,k*3+1,none⟩=some (.int .i64 (us[k].2.1:Int))/\w.cell? ⟨g,k*3+2,none⟩=some (.bool us[k].2.2)
theorem UsesAt.grown{w w':World}{v:Value}{f:List Use}(h:UsesAt w v f)(d:w.grownBy w' none):UsesAt w' v f:=by
 obtain⟨g,i,e,l,j⟩:=h;refine⟨g,i,e,Nat.lt_of_lt_of_le l d.size,fun k hk=>?_⟩;obtain⟨a,b,c⟩:=j k hk;exact⟨ip d _ _ a,ip d _ _ b,ip d _ _ c⟩
theorem zB{W:World}{t:TypeId}{g:Nat}{u:Use}(a:W.heap.size=g):UsesAt (W.alloc (.cells #[.int .i64 (u.1:Int),.int .i64 (u.2.1:Int),.bool u.2.2] t)) (.slice (some ⟨g,0,none⟩) 1 1) [u]:=by
 subst a;have h:=heap_alloc_new W (.cells #[.int .i64 (u.1:Int),.int .i64 (u.2.1:Int),.bool u.2.2] t);refine⟨W.heap.size,1,rfl,by simp,fun k hk=>?_⟩;have b:k=0:=by simp at hk;omega
 subst b;simp only [World.cell?,h];exact⟨rfl,rfl,rfl⟩
theorem mX{W:World}{t:TypeId}{g:Nat}{u v:Use}(a:W.heap.size=g):UsesAt (W.alloc (.cells #[.int .i64 (u.1:Int),.int .i64 (u.2.1:Int),.bool u.2.2,.int .i64 (v.1:Int),.int .i64 (v.2.1:Int),.bool v.2.2] t)) (.slice (some ⟨g,0,none⟩) 2 2) [u,v]:=by
 subst a;have h:=heap_alloc_new W (.cells #[.int .i64 (u.1:Int),.int .i64 (u.2.1:Int),.bool u.2.2,.int .i64 (v.1:Int),.int .i64 (v.2.1:Int),.bool v.2.2] t);refine⟨W.heap.size,2,rfl,by simp,fun k hk=>?_⟩;have b:k=0\/k=1:=by simp at hk;omega
 rcases b with rfl | rfl
 ·simp only [World.cell?,h];exact⟨rfl,rfl,rfl⟩
 ·simp only [World.cell?,h];exact⟨rfl,rfl,rfl⟩
theorem zA(t:Nat)(i:Ins)(w:World)(k:0<=i.a)(l:0<=i.b):
  Calls Tryz.prog 124 #[.int .i64 (t:Int),.agg #[.int .i64 i.op,.int .i64 i.a,.int .i64 i.b,.int .i64 i.n]] w fun e w'=>∃ v,e= .returned v/\UsesAt w' v (usesI t i)/\w.grownBy w' none:=by
 obtain⟨op,a,b,n⟩:=i;obtain⟨a,rfl⟩:=Int.eq_ofNat_of_zero_le k;obtain⟨b,rfl⟩:=Int.eq_ofNat_of_zero_le l;simp only;have d:Hid (∀ x y z,w.grownBy (((w.alloc x).alloc y).alloc z) none):=fun x y z=>iq (iq (iq (ir _ _)))
 by_cases j:op=9\/op=10
 ·have c:Hid (usesI t ⟨op,a,b,n⟩=[(0,t,true),(2,a,true)]):=by unfold Hid usesI;simp [j]
  rcases j with rfl | rfl
  ·go_enter Tryz.func124,Tryz.ntmps124
   go_wp2_with fail
   go_ret;exact⟨_,rfl,by rw [c.out];exact mX (u:=(0,t,true)) (v:=(2,a,true)) (by simp),d.out _ _ _⟩
  ·go_enter Tryz.func124,Tryz.ntmps124
   go_wp2_with fail
   go_ret;exact⟨_,rfl,by rw [c.out];exact mX (u:=(0,t,true)) (v:=(2,a,true)) (by simp),d.out _ _ _⟩
 ·by_cases f:op=2
  ·have c:Hid (usesI t ⟨op,a,b,n⟩=[(0,t,true),(1,b,false)]):=by unfold Hid usesI;simp [f]
   subst f;go_enter Tryz.func124,Tryz.ntmps124
   go_wp2_with fail
   go_ret;exact⟨_,rfl,by rw [c.out];exact mX (u:=(0,t,true)) (v:=(1,b,false)) (by simp),d.out _ _ _⟩
  ·by_cases h:op=3
   ·have c:Hid (usesI t ⟨op,a,b,n⟩=[(0,t,true),(1,a,true)]):=by unfold Hid usesI;simp [h]
    subst h;go_enter Tryz.func124,Tryz.ntmps124
    go_wp2_with fail
    go_ret;exact⟨_,rfl,by rw [c.out];exact mX (u:=(0,t,true)) (v:=(1,a,true)) (by simp),d.out _ _ _⟩
   ·have c:Hid (usesI t ⟨op,a,b,n⟩=[(0,t,true)]):=by unfold Hid usesI;simp [j,f,h]
    have e2:(op==2)=false:=by simpa using f
    have e3:(op==3)=false:=by simpa using h
    have e9:(op==9)=false:=by simp;omega
    have e10:(op==10)=false:=by simp;omega
    clear j f h;go_enter Tryz.func124,Tryz.ntmps124
    go_wp2_with fail
    go_ret;exact⟨_,rfl,by rw [c.out];exact zB (u:=(0,t,true)) (by simp),d.out _ _ _⟩
theorem my(F:Use->Nat)(hF:∀ u,F u<=1000):∀ (us:List Use) (n:Nat),n<=1000->aheadS F us n<=1000
 | [],n,h=>h
 | u::r,n,h=>by
  unfold aheadS;have h1:=hF (u.1,u.2.1,true);have h2:=hF (u.1,u.2.1,false);exact my F hF r _ (by split<;>omega)
theorem zK{w:World}{b n:Nat}{F:Use->Nat}(B:HistAt w b n F)(A:∀ u,F u<=1000)(a:List Use)(C:∀ u∈a,smallU u)(v:Value)(I:UsesAt w v a)(hl:a.length<=10):
  Calls Tryz.prog 125 #[.map (some b),v] w fun e w'=>e= .returned (.int .i64 (aheadS F a 0:Nat))/\w.grownBy w' none:=by
 obtain⟨g,cap,rfl,hg,hc⟩:=I;have s:=ij B;have r:=ij A;have H:=ij C;have E:=ij hc;have hl':(a.length:Int)<=10:=by omega
 clear B A C hc;go_enter Tryz.func125,Tryz.ntmps125
 go_wp2_with fail
 go_loopw [5,10] (fun x i w'=>∃ k m:Nat,k<=a.length/\i= .int .i64 k/\x= .int .i64 m/\m<=1000/\Hid (w.grownBy w' none)/\Hid (aheadS F a 0=aheadS F (a.drop k) m)) (fun _ i _=>a.length - (intOf i).toNat)
 case atStart=>exact⟨0,0,Nat.zero_le _,rfl,rfl,by omega,ir _ _,rfl⟩
 case round=>
  obtain⟨k,m,hk,rfl,rfl,hm,c,l⟩:=hrel;obtain⟨d,D⟩:∃ d,d=wr:=⟨_,rfl⟩;rw [<-D]at c ⊢;clear D;by_cases o:k<a.length
  ·obtain⟨c0,c1,z⟩:=E.out k o;have d0:=ip c.out _ _ c0;have d1:=ip c.out _ _ c1;have d2:=ip c.out _ _ z;have f:Hid (aheadS F a 0=aheadS F (a.drop (k+1)) (if a[k].2.2=true then max (max m (F (a[k].1,a[k].2.1,true))) (F (a[k].1,a[k].2.1,false)) else max m (F (a[k].1,a[k].2.1,true)))):=by
    unfold Hid;rw [l.out,List.drop_eq_getElem_cons o,aheadS]
   have p:=H.out _ (List.getElem_mem o);have y:Hid (∀ u,d.grownBy u none->(Instr.lookup 205 (.map (some b)) (.agg #[.int .i64 (a[k].1:Int),.int .i64 (a[k].2.1:Int),.bool true]) false).run Tryz.prog u= .ok (.int .i64 (F (a[k].1,a[k].2.1,true))) u):=fun u hu=>((s.out.kept c.out).kept hu).look (u:=(a[k].1,a[k].2.1,true)) p
   have t:Hid (∀ u,d.grownBy u none->(Instr.lookup 205 (.map (some b)) (.agg #[.int .i64 (a[k].1:Int),.int .i64 (a[k].2.1:Int),.bool false]) false).run Tryz.prog u= .ok (.int .i64 (F (a[k].1,a[k].2.1,false))) u):=fun u hu=>((s.out.kept c.out).kept hu).look (u:=(a[k].1,a[k].2.1,false)) p
   have hft:=r.out (a[k].1,a[k].2.1,true);have hff:=r.out (a[k].1,a[k].2.1,false);clear c0 c1 z p l;generalize a[k]=u at*;obtain⟨h,j,q⟩:=u;simp only at*;generalize F (h,j,true)=ft at*;generalize F (h,j,false)=ff at*;have k0:(0:Int)<=(k:Int):=by omega
   have k1:(k:Int)<a.length:=by omega
   have rt:=y.out (d.alloc (.cells #[.int .i64 (h:Int),.int .i64 (j:Int),.bool q] 240)) (iq (ir _ _));have rf:=t.out (d.alloc (.cells #[.int .i64 (h:Int),.int .i64 (j:Int),.bool q] 240)) (iq (ir _ _));clear y t;cases q
   ·simp only [Bool.false_eq_true,if_false]at f;go_wp2_with fail
    go_roundw
    case rel=>exact⟨k+1,max m ft,by omega,by go_num,by congr 1;(repeat' split)<;>omega,by omega,iq c.out,f⟩
    case measure=>simp [intOf];omega
   ·simp only [if_true]at f;go_wp2_with fail
    go_roundw
    case rel=>exact⟨k+1,max (max m ft) ff,by omega,by go_num,by congr 1;(repeat' split)<;>omega,by omega,iq c.out,f⟩
    case measure=>simp [intOf];omega
  ·have k1:(a.length:Int)<=(k:Int):=by omega
   have G:Hid (aheadS F a 0=m):=by
    unfold Hid;rw [l.out,List.drop_of_length_le (by omega)];rfl
   go_wp2_with fail
   go_ret;exact⟨by rw [G.out];rfl,c.out⟩
end
end Go.Proofs.YtklenjmfalljgabGreatDoor
