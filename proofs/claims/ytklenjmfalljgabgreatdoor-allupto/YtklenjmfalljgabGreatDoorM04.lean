/- The texts Rdy Stp Mach End. -/
import Derived.Test.YtklenjmfalljgabGreatDoorM03
import Derived.Deep.DeepMust
import Derived.Deep.RegionHeld3
import Derived.Laws.EntriesVeiled
namespace Go.Proofs.YtklenjmfalljgabGreatDoor
set_option maxRecDepth 100000
set_option maxHeartbeats 8000000
section
open Go.RowKit
attribute [local go_sem] Go.World.cell?_alloc_some
theorem iH{w w':World}{r:Option Nat}(h:w'.heap=w.heap/\w'.os=w.os/\w'.output=w.output/\w'.tape=w.tape):w.grownBy w' r:=iR (ir w r) h
theorem iq{w w':World}{r:Option Nat}{o:Obj}(h:w.grownBy w' r):w.grownBy (w'.alloc o) r:=
 il h ⟨rfl,rfl,rfl,by simp,fun k hk _=>Below.heap_alloc _ _ _ hk⟩
theorem iy{w w':World}{r:Option Nat}(h:w.grownBy w' r):w.grownBy w'.drew r:=iR h ⟨rfl,rfl,rfl,rfl⟩
theorem jB(w:World):∀ n,Like (w.drewN n) w
 | 0=>⟨rfl,rfl,rfl,rfl⟩
 | n+1=>jB w n
theorem iO{w w':World}{r:Option Nat}(n:Nat)(h:w.grownBy w' r):w.grownBy (w'.drewN n) r:=iR h (jB w' n)
theorem mF(m g d b t n:Nat)(a:Option Addr)(len c:Nat)(x:Int)(w:World)(ht:t<n)(ht4:t<4)
  (hm:w.cell? ⟨m,0,none⟩=some (.slice (some ⟨g,0,none⟩) n d)) (hr:w.cell? ⟨g,t,none⟩=some (.slice a len c)) (hx:w.cell? ⟨b,26+t,none⟩=some (.int .i64 x)):
  Calls Tryz.prog 122 #[.pointer (some ⟨m,0,none⟩),.pointer (some ⟨b,0,none⟩),.int .i64 t] w
   fun e w'=>e= .returned (.bool (x==(len:Int)))/\Like w' w:=by
 have h1:(0:Int)<=(t:Int):=by omega
 have h2:(t:Int)<4:=by omega
 have h3:(t:Int)<n:=by omega
 go_enter Tryz.func122,Tryz.ntmps122
 go_wp2
 go_region
 all_goals (go_wp2;go_ret;exact⟨rfl,rfl,rfl,rfl,rfl⟩)
theorem oZ(m g d b t n:Nat)(a:Option Addr)(len c:Nat)(w:World)(j:t<n)(k:t<4)
  (h:w.cell? ⟨m,0,none⟩=some (.slice (some ⟨g,0,none⟩) n d)) (i:w.cell? ⟨g,t,none⟩=some (.slice a len c)) (l:w.cell? ⟨b,26+t,none⟩=some (.int .i64 len)):
  Calls Tryz.prog 81 #[.pointer (some ⟨m,0,none⟩),.pointer (some ⟨b,0,none⟩),.int .i64 t] w
   fun e w'=>e= .returned (.bool false)/\Like w' w:=by
 go_enter Tryz.func81,Tryz.ntmps81
 go_wp2_with fail
 refine(mF m g d b t n a len c len w j k h i l).mono ?_;rintro e w' ⟨rfl,f⟩;simp only [beq_self_eq_true];go_wp2
 go_ret;exact⟨rfl,f⟩
theorem o0(m g d b t n h k:Nat)(len c:Nat)(u:Nat)(p:Array Value)(l:Int)(w:World)(J:t<n)(K:t<4)(hk:k<len)
  (f:w.cell? ⟨m,0,none⟩=some (.slice (some ⟨g,0,none⟩) n d)) (i:w.cell? ⟨g,t,none⟩=some (.slice (some ⟨h,0,none⟩) len c)) (j:w.cell? ⟨b,26+t,none⟩=some (.int .i64 k))
  (q:w.cell? ⟨h,k*3,none⟩=some (.func (.func u) #[] p)) (r:w.cell? ⟨h,k*3+1,none⟩=some (.bool false)) (s:w.cell? ⟨h,k*3+2,none⟩=some (.int .i64 l)):
  Calls Tryz.prog 81 #[.pointer (some ⟨m,0,none⟩),.pointer (some ⟨b,0,none⟩),.int .i64 t] w
   fun e w'=>e= .returned (.bool true)/\w.grownBy w' none:=by
 have h1:(0:Int)<=(t:Int):=by omega
 have h2:(t:Int)<4:=by omega
 have h3:(t:Int)<n:=by omega
 have h4:(0:Int)<=(k:Int):=by omega
 have h5:(k:Int)<len:=by omega
 have H:((k:Int)==(len:Int))=false:=by simp;omega
 go_enter Tryz.func81,Tryz.ntmps81
 go_wp2_with fail
 refine(mF m g d b t n _ len c k w J K f i j).mono ?_;rintro e w' ⟨rfl,F⟩;rw [H];obtain⟨o,A,B,C⟩:=F;have c1:∀ a,w'.cell? a=w.cell? a:=fun a=>by simp [World.cell?,o]
 have D:Hid (w'.heap=w.heap/\w'.os=w.os/\w'.output=w.output/\w'.tape=w.tape):=⟨o,A,B,C⟩;have G:w'.cell? ⟨m,0,none⟩=some (.slice (some ⟨g,0,none⟩) n d):=by rw [c1];exact f
 have I:w'.cell? ⟨g,t,none⟩=some (.slice (some ⟨h,0,none⟩) len c):=by rw [c1];exact i
 have L:w'.cell? ⟨b,26+t,none⟩=some (.int .i64 k):=by rw [c1];exact j
 have E:w'.cell? ⟨h,k*3,none⟩=some (.func (.func u) #[] p):=by rw [c1];exact q
 have d1:w'.cell? ⟨h,k*3+1,none⟩=some (.bool false):=by rw [c1];exact r
 have d2:w'.cell? ⟨h,k*3+2,none⟩=some (.int .i64 l):=by rw [c1];exact s
 clear o A B C c1 f i j q r s;have v:=World.new_ne w' _ G;have x:=World.new_ne w' _ I;have y:=World.new_ne w' _ L;have z:=World.new_ne w' _ E;simp only at v x y z;have m1:=Ne.symm v;have m2:=Ne.symm x;have m3:=Ne.symm y;have m4:=Ne.symm z;go_wp2
 go_region
 go_wp2
 go_quiet (fail)
 go_wp2
 go_ret;exact⟨rfl,iO _ (iy (iq (iH D.out)))⟩
theorem o7(m g d b t n h k:Nat)(len c:Nat)(x:Nat)(q:Array Value)(l:Nat)(f:Bool)(hl3:l<3)(w:World)(L:t<n)(M:t<4)(hk:k<len)
  (i:w.cell? ⟨m,0,none⟩=some (.slice (some ⟨g,0,none⟩) n d)) (j:w.cell? ⟨g,t,none⟩=some (.slice (some ⟨h,0,none⟩) len c)) (o:w.cell? ⟨b,26+t,none⟩=some (.int .i64 k))
  (r:w.cell? ⟨h,k*3,none⟩=some (.func (.func x) #[] q)) (s:w.cell? ⟨h,k*3+1,none⟩=some (.bool true)) (u:w.cell? ⟨h,k*3+2,none⟩=some (.int .i64 l)) (v:w.cell? ⟨b,4+l*2,none⟩=some (.bool f)):
  Calls Tryz.prog 81 #[.pointer (some ⟨m,0,none⟩),.pointer (some ⟨b,0,none⟩),.int .i64 t] w
   fun e w'=>e= .returned (.bool (!f))/\w.grownBy w' none:=by
 have h1:(0:Int)<=(t:Int):=by omega
 have h2:(t:Int)<4:=by omega
 have h3:(t:Int)<n:=by omega
 have h4:(0:Int)<=(k:Int):=by omega
 have h5:(k:Int)<len:=by omega
 have J:((k:Int)==(len:Int))=false:=by simp;omega
 go_enter Tryz.func81,Tryz.ntmps81
 go_wp2_with fail
 refine(mF m g d b t n _ len c k w L M i j o).mono ?_;rintro e w' ⟨rfl,H⟩;rw [J];obtain⟨p,C,D,E⟩:=H;have c1:∀ a,w'.cell? a=w.cell? a:=fun a=>by simp [World.cell?,p]
 have F:Hid (w'.heap=w.heap/\w'.os=w.os/\w'.output=w.output/\w'.tape=w.tape):=⟨p,C,D,E⟩;have I:w'.cell? ⟨m,0,none⟩=some (.slice (some ⟨g,0,none⟩) n d):=by rw [c1];exact i
 have K:w'.cell? ⟨g,t,none⟩=some (.slice (some ⟨h,0,none⟩) len c):=by rw [c1];exact j
 have N:w'.cell? ⟨b,26+t,none⟩=some (.int .i64 k):=by rw [c1];exact o
 have G:w'.cell? ⟨h,k*3,none⟩=some (.func (.func x) #[] q):=by rw [c1];exact r
 have d1:w'.cell? ⟨h,k*3+1,none⟩=some (.bool true):=by rw [c1];exact s
 have d2:w'.cell? ⟨h,k*3+2,none⟩=some (.int .i64 l):=by rw [c1];exact u
 have d3:w'.cell? ⟨b,4+l*2,none⟩=some (.bool f):=by rw [c1];exact v
 have h6:(0:Int)<=(l:Int):=by omega
 have h7:(l:Int)<3:=by omega
 clear p C D E c1 i j o r s u v;have y:=World.new_ne w' _ I;have z:=World.new_ne w' _ K;have A:=World.new_ne w' _ N;have B:=World.new_ne w' _ G;simp only at y z A B;have m1:=Ne.symm y;have m2:=Ne.symm z;have m3:=Ne.symm A;have m4:=Ne.symm B;go_wp2
 go_region
 go_wp2
 go_quiet (fail)
 go_wp2
 go_ret;exact⟨rfl,iO _ (iy (iq (iH F.out)))⟩
theorem zm(m g f b t n h k:Nat)(len c:Nat)(a:Nat)(d:Array Value)(w:World)(R:Bool->World->Prop)(ht:t<n)(ht4:t<4)(hk:k<len)(hk16:k<16)
  (u:m≠b) (p:g≠b) (q:h≠b)
  (s:w.cell? ⟨m,0,none⟩=some (.slice (some ⟨g,0,none⟩) n f)) (v:w.cell? ⟨g,t,none⟩=some (.slice (some ⟨h,0,none⟩) len c)) (hx:w.cell? ⟨b,26+t,none⟩=some (.int .i64 k)) (hxf:w.frozen? ⟨b,26+t,none⟩=false)
  (o:w.cell? ⟨h,k*3,none⟩=some (.func (.func a) #[] d))
  (hent:∀ args w,(callFunc a args).run Tryz.prog w= .ok (.enter a args) w)
  (i:Calls Tryz.prog a (#[.pointer (some ⟨b,0,none⟩)]++d) (w.setCell ⟨b,26+t,none⟩ (.int .i64 ((k:Int)+1))) fun e w'=>∃ r,e= .returned (.bool r)/\R r w'):
  Calls Tryz.prog 82 #[.pointer (some ⟨m,0,none⟩),.pointer (some ⟨b,0,none⟩),.int .i64 t] w
   fun e w'=>∃ r,e= .returned (.bool r)/\R r w':=by
 have h1:(0:Int)<=(t:Int):=by omega
 have h2:(t:Int)<4:=by omega
 have h3:(t:Int)<n:=by omega
 have h4:(0:Int)<=(k:Int):=by omega
 have h5:(k:Int)<len:=by omega
 have h6:(k:Int)<16:=by omega
 have j:Hid (Calls Tryz.prog a (#[.pointer (some ⟨b,0,none⟩)]++d) (w.setCell ⟨b,26+t,none⟩ (.int .i64 ((k:Int)+1))) fun e w'=>∃ r,e= .returned (.bool r)/\R r w'):=i;clear i;have s1:(w.setCell ⟨b,26+t,none⟩ (.int .i64 ((k:Int)+1))).cell? ⟨m,0,none⟩=some (.slice (some ⟨g,0,none⟩) n f):=by rw [World.cell?_setCell_far _ _ _ _ (by simpa using Ne.symm u)];exact s
 have s2:(w.setCell ⟨b,26+t,none⟩ (.int .i64 ((k:Int)+1))).cell? ⟨g,t,none⟩=some (.slice (some ⟨h,0,none⟩) len c):=by rw [World.cell?_setCell_far _ _ _ _ (by simpa using Ne.symm p)];exact v
 have s3:(w.setCell ⟨b,26+t,none⟩ (.int .i64 ((k:Int)+1))).cell? ⟨h,k*3,none⟩=some (.func (.func a) #[] d):=by rw [World.cell?_setCell_far _ _ _ _ (by simpa using Ne.symm q)];exact o
 go_enter Tryz.func82,Tryz.ntmps82
 go_wp2_with fail
 go_show
 refine j.out.mono ?_;rintro e w' ⟨r,rfl,l⟩;go_wp2
 go_ret;exact⟨r,rfl,l⟩
end
section
open Go.RowKit
def MoveAt(B:Nat)(w:World)(h k t:Nat)(i:Ins):Prop:=
 ∃ kf caps,w.cell? ⟨h,k*3,none⟩=some (.func (.func kf) #[] caps)/\ActIs B w (.func (.func kf) #[] caps) t i/\
  w.cell? ⟨h,k*3+1,none⟩=some (.bool (i.op==9))/\w.cell? ⟨h,k*3+2,none⟩=some (.int .i64 (if i.op=9 then i.a else 0))
def RowIs(B:Nat)(w:World)(v:Value)(t:Nat)(c:List Ins):Prop:=
 (c=[]/\v= .slice none 0 0)\/∃ h cap,v= .slice (some ⟨h,0,none⟩) c.length cap/\h<B/\∀ k (hk:k<c.length),MoveAt B w h k t c[k]
def MachAt(B:Nat)(w:World)(m:Nat)(p:List (List Ins)):Prop:=
 ∃ g cap,m<B/\g<B/\w.cell? ⟨m,0,none⟩=some (.slice (some ⟨g,0,none⟩) p.length cap)/\
  ∀ t,t<p.length->∃ v,w.cell? ⟨g,t,none⟩=some v/\RowIs B w v t (codeOf p t)
theorem MoveAt.of_block{B:Nat}{w w':World}{h k t:Nat}{i:Ins}(l:h<B)(H:MoveAt B w h k t i)(a:∀ k,k<B->w'.heap[k]?=w.heap[k]?):MoveAt B w' h k t i:=by
 obtain⟨m,b,d,e,f,j⟩:=H;have c:∀ o,w'.cell? ⟨h,o,none⟩=w.cell? ⟨h,o,none⟩:=fun o=>World.cell?_of_block (a h l)
 exact⟨m,b,by rw [c];exact d,e.of_block a,by rw [c];exact f,by rw [c];exact j⟩
theorem MoveAt.mono{B a:Nat}{w:World}{h k t:Nat}{i:Ins}(H:MoveAt B w h k t i)(j:B<=a):MoveAt a w h k t i:=by
 obtain⟨l,b,c,d,e,f⟩:=H;exact⟨l,b,c,d.mono j,e,f⟩
theorem RowIs.of_block{B:Nat}{w w':World}{v:Value}{t:Nat}{c:List Ins}(H:RowIs B w v t c)(a:∀ k,k<B->w'.heap[k]?=w.heap[k]?):RowIs B w' v t c:=by
 rcases H with H | ⟨h,cap,h1,h2,h3⟩
 ·exact Or.inl H
 ·exact Or.inr ⟨h,cap,h1,h2,fun k hk=>(h3 k hk).of_block h2 a⟩
theorem RowIs.mono{B a:Nat}{w:World}{v:Value}{t:Nat}{c:List Ins}(H:RowIs B w v t c)(b:B<=a):RowIs a w v t c:=by
 rcases H with H | ⟨h,cap,h1,h2,h3⟩
 ·exact Or.inl H
 ·exact Or.inr ⟨h,cap,h1,by omega,fun k hk=>(h3 k hk).mono b⟩
theorem MachAt.of_block{B:Nat}{w w':World}{m:Nat}{p:List (List Ins)}(H:MachAt B w m p)(a:∀ k,k<B->w'.heap[k]?=w.heap[k]?):MachAt B w' m p:=by
 obtain⟨g,d,c,b,e,f⟩:=H;refine⟨g,d,c,b,by rw [World.cell?_of_block (a m c)];exact e,fun t ht=>?_⟩;obtain⟨v,h,i⟩:=f t ht;exact⟨v,by rw [World.cell?_of_block (a g b)];exact h,i.of_block a⟩
theorem StAt.lt{w:World}{b:Nat}{s:St}(h:StAt w b s):b<w.heap.size:=by
 unfold StAt at h;exact(Array.getElem?_eq_some_iff.1 h).1
theorem StAt.grown{w w':World}{b:Nat}{s:St}(h:StAt w b s)(a:w.grownBy w' none):StAt w' b s:=by
 have c:=h.lt;unfold StAt at*;rw [a.block b c (by simp)];exact h
theorem MachAt.grown{B b:Nat}{w w':World}{m:Nat}{p:List (List Ins)}(H:MachAt B w m p)(hB:B<=b)(hb:b<w.heap.size)(hg:w.grownBy w' (some b)):MachAt B w' m p:=
 H.of_block fun k hk=>hg.block k (by omega) (by simp;omega)
theorem MachAt.grown'{B:Nat}{w w':World}{m:Nat}{p:List (List Ins)}(H:MachAt B w m p)(hB:B<=w.heap.size)(hg:w.grownBy w' none):MachAt B w' m p:=
 H.of_block fun k hk=>hg.block k (by omega) (by simp)
theorem Bz{B m b t:Nat}{w:World}{p:List (List Ins)}{s:St}(q:vProg p=true)(o:MachAt B w m p)(r:StAt w b s)(d:t<p.length):
  Calls Tryz.prog 122 #[.pointer (some ⟨m,0,none⟩),.pointer (some ⟨b,0,none⟩),.int .i64 t] w
   fun e w'=>e= .returned (.bool (doneB p s t))/\w.grownBy w' none:=by
 obtain⟨g,i,hm,hg,j,k⟩:=o;obtain⟨v,l,n⟩:=k t d;have f:t<4:=by have:=(iW q).2;omega
 have u:∃ a c,v= .slice a (codeOf p t).length c:=by
  rcases n with ⟨e,rfl⟩ | ⟨h,c,rfl,_⟩
  ·exact⟨none,0,by rw [e];rfl⟩
  ·exact⟨_,_,rfl⟩
 obtain⟨a,c,rfl⟩:=u;exact(mF m g i b t _ a _ c _ w d f j l (r.next f)).mono fun e w' ⟨he,hl⟩=>⟨he,iR (ir _ _) hl⟩
theorem sX{B:Nat}{w:World}{v:Value}{t:Nat}{c:List Ins}(H:RowIs B w v t c){k:Nat}(a:k<c.length):
  ∃ h cap,v= .slice (some ⟨h,0,none⟩) c.length cap/\h<B/\MoveAt B w h k t c[k]:=by
 rcases H with ⟨e,_⟩ | ⟨h,cap,e,hh,hm⟩
 ·subst e;simp at a
 ·exact⟨h,cap,e,hh,hm k a⟩
theorem uY{B m b t:Nat}{w:World}{p:List (List Ins)}{s:St}(F:vProg p=true)(N:MachAt B w m p)(z:StAt w b s)(M:Inv p s)(d:t<p.length):
  Calls Tryz.prog 81 #[.pointer (some ⟨m,0,none⟩),.pointer (some ⟨b,0,none⟩),.int .i64 t] w
   fun e w'=>e= .returned (.bool (readyB p s t))/\w.grownBy w' none:=by
 obtain⟨g,q,hm,hg,r,L⟩:=N;obtain⟨v,u,D⟩:=L t d;have k:t<4:=by have:=(iW F).2;omega
 have hn:=M t d;by_cases x:doneB p s t=true
 ·have A:∃ o c,v= .slice o (codeOf p t).length c:=by
   rcases D with ⟨e,rfl⟩ | ⟨h,c,rfl,_⟩
   ·exact⟨none,0,by rw [e];rfl⟩
   ·exact⟨_,_,rfl⟩
  obtain⟨o,c,rfl⟩:=A;have f:=z.next k;have e:s.next t=((codeOf p t).length:Int):=by simpa [doneB]using x
  rw [e]at f;exact(oZ m g q b t _ o _ c w d k r u f).mono fun e w' ⟨he,hl⟩=>⟨by rw [he];simp [readyB,x],iR (ir _ _) hl⟩
 ·have y:doneB p s t=false:=by simpa using x
  have hne:s.next t≠((codeOf p t).length:Int):=by simpa [doneB]using y
  have j:(s.next t).toNat<(codeOf p t).length:=by omega
  have K:((s.next t).toNat:Int)=s.next t:=by omega
  obtain⟨h,c,rfl,hh,G,C,H,P,l,n⟩:=sX D j;have f:=z.next k;rw [<-K]at f;have A:=jT F d j;have O:insAt p t (s.next t)=(codeOf p t)[(s.next t).toNat]:=j4 j;rw [<-O]at P l n;by_cases i:(insAt p t (s.next t)).op=9
  ·have hsay:=lJ A;have ha:0<=(insAt p t (s.next t)).a/\(insAt p t (s.next t)).a<3:=by omega
   have J:((insAt p t (s.next t)).a.toNat:Int)=(insAt p t (s.next t)).a:=by omega
   have E:(insAt p t (s.next t)).a.toNat<3:=by omega
   rw [if_pos i,<-J]at n;rw [i]at l;exact(o7 m g q b t _ h _ _ c G C _ _ E w d k j r u f H l n (z.held E)).mono fun e w' ⟨he,hl⟩=>⟨by rw [he];simp [readyB,y,i],hl⟩
  ·have I:((insAt p t (s.next t)).op==9)=false:=by simpa using i
   rw [I]at l;exact(o0 m g q b t _ h _ _ c G C _ w d k j r u f H l n).mono fun e w' ⟨he,hl⟩=>⟨by rw [he];simp [readyB,y,i],hl⟩
theorem BZ{B m b t:Nat}{w:World}{p:List (List Ins)}{s:St}(l:vProg p=true)(M:MachAt B w m p)(hB:B<=b)(n:StAt w b s)(L:Inv p s)(d:t<p.length)(N:doneB p s t=false):
  Calls Tryz.prog 82 #[.pointer (some ⟨m,0,none⟩),.pointer (some ⟨b,0,none⟩),.int .i64 t] w
   fun e w'=>∃ r,e= .returned (.bool r)/\r=(stepS p s t).1/\StAt w' b (stepS p s t).2/\w.grownBy w' (some b):=by
 obtain⟨g,D,hm,hg,H,I⟩:=M;obtain⟨v,J,K⟩:=I t d;have f:t<4:=by have:=(iW l).2;omega
 have hn:=L t d;have hne:s.next t≠((codeOf p t).length:Int):=by simpa [doneB]using N
 have a:(s.next t).toNat<(codeOf p t).length:=by omega
 have j:((s.next t).toNat:Int)=s.next t:=by omega
 have h16:=jx (jf l d);obtain⟨h,c,rfl,hh,T,E,U,y,m2,m3⟩:=sX K a;have u:=n.next f;rw [<-j]at u;have S:=jT l d a;have Q:insAt p t (s.next t)=(codeOf p t)[(s.next t).toNat]:=j4 a;rw [<-Q]at y;have R:StAt (w.setCell ⟨b,26+t,none⟩ (.int .i64 (s.next t+1))) b (s.setNext t (s.next t+1)):=n.setCell (l8 s f _);have P:w.grownBy (w.setCell ⟨b,26+t,none⟩ (.int .i64 (s.next t+1))) (some b):=iM;have V:=y.of_block (w':=w.setCell ⟨b,26+t,none⟩ (.int .i64 (s.next t+1))) fun k a=>Below.heap_setCell _ _ _ _ (by simp;omega)
 obtain⟨x,o,i,F,q⟩:=xq f S V R;have G:x=T/\o=E:=by simp at i;exact⟨i.1.symm,i.2.symm⟩
 obtain⟨rfl,rfl⟩:=G;rw [<-j]at q;refine(zm m g D b t _ h _ _ c x o w (fun r w'=>r=(stepS p s t).1/\StAt w' b (stepS p s t).2/\w.grownBy w' (some b)) d f a (by omega) (by omega) (by omega) (by omega) H J u (n.frozen _) U F (q.mono ?_));rintro e w' ⟨r,O,z,A,C⟩;rw [j]at z A C;exact⟨r,O,z,A,il P C⟩
def endTo(p:List (List Ins))(s:St)(k:Nat):Int:=if (List.range k).all (doneB p s) then 3 else 4
theorem tL(p:List (List Ins))(s:St)(k:Nat):endTo p s (k+1)=if doneB p s k=true then endTo p s k else 4:=by
 unfold endTo;rw [List.range_succ,List.all_append];by_cases h:doneB p s k=true<;>simp [h]
theorem nI{p:List (List Ins)}{s:St}{k:Nat}(a:k<p.length)(h:readyB p s k=true):endingS p s=5:=by
 unfold endingS;rw [if_pos];exact List.any_eq_true.2 ⟨k,List.mem_range.2 a,h⟩
theorem oC{p:List (List Ins)}{s:St}(h:∀ k,k<p.length->readyB p s k=false):endingS p s=endTo p s p.length:=by
 unfold endingS endTo;rw [if_neg];intro hc;obtain⟨k,b,a⟩:=List.any_eq_true.1 hc;rw [h k (List.mem_range.1 b)]at a;cases a
theorem xS{B m b:Nat}{w:World}{p:List (List Ins)}{s:St}(h:vProg p=true)(y:MachAt B w m p)(hB:B<=b)(l:StAt w b s)(x:Inv p s):
  Calls Tryz.prog 83 #[.pointer (some ⟨m,0,none⟩),.pointer (some ⟨b,0,none⟩)] w
   fun e w'=>e= .returned (.int .i64 (endingS p s))/\w.grownBy w' none:=by
 have hb:=l.lt;have hlen:=iW h;have o:Hid (MachAt B w m p):=y;have u:Hid (StAt w b s):=l;have C:Hid (Inv p s):=x;have q:Hid (vProg p=true):=h;obtain⟨g,cap,F,E,h1,D⟩:=y;have h3:(p.length:Int)<=4:=by omega
 clear D l x h F E;go_enter Tryz.func83,Tryz.ntmps83
 go_wp2
 go_loopw [5,12] (fun e i w'=>∃ k:Nat,k<=p.length/\i= .int .i64 k/\e= .int .i64 (endTo p s k)/\Hid (w.grownBy w' none)/\Hid (∀ j,j<k->readyB p s j=false)) (fun _ i _=>p.length - (intOf i).toNat)
 case atStart=>exact⟨0,Nat.zero_le _,rfl,rfl,ir _ _,fun j hj=>by omega⟩
 case round=>
  obtain⟨k,hk,rfl,rfl,a,r⟩:=hrel;by_cases f:k<p.length
  ·go_wp2_with fail
   refine(uY q.out (o.out.grown' (by omega) a.out) (u.out.grown a.out) C.out f).mono ?_;rintro e G ⟨rfl,z⟩;have c:Hid (w.grownBy G none):=il a.out z;clear z;cases hr:readyB p s k
   ·go_wp2_with fail
    refine(Bz q.out (o.out.grown' (by omega) c.out) (u.out.grown c.out) f).mono ?_;rintro e H ⟨rfl,A⟩;have n:Hid (w.grownBy H none):=il c.out A;clear A;have v:Hid (endTo p s (k+1)=if doneB p s k=true then endTo p s k else 4):=tL p s k;have t:Hid (∀ j,j<k+1->readyB p s j=false):=fun j hj=>by
     by_cases e:j=k
     ·rw [e];exact hr
     ·exact r.out j (by omega)
    clear hr;cases hd:doneB p s k
    ·go_wp2
     go_roundw
     case rel=>exact⟨k+1,by omega,by go_num,by rw [v.out,hd];rfl,n,t⟩
     case measure=>simp [intOf];omega
    ·go_wp2
     go_roundw
     case rel=>exact⟨k+1,by omega,by go_num,by rw [v.out,hd];rfl,n,t⟩
     case measure=>simp [intOf];omega
   ·have d:Hid (endingS p s=5):=nI f hr;clear hr;go_wp2
    go_ret;exact⟨by rw [d.out];rfl,c⟩
  ·have e:k=p.length:=by omega
   have d:Hid (endingS p s=endTo p s k):=by rw [e];exact oC (fun j hj=>r.out j (by omega))
   clear e;go_wp2
   go_ret;exact⟨by rw [d.out];rfl,a⟩
end
end Go.Proofs.YtklenjmfalljgabGreatDoor
