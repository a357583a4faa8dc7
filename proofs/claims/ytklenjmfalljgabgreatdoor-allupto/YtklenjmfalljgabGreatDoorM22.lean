/- The texts Rdn Rdo Wrt3 Wrt5 Wrt4 Wrt6. -/
import Derived.Test.YtklenjmfalljgabGreatDoorM02
import Derived.Test.YtklenjmfalljgabGreatDoorM17
import Derived.Test.YtklenjmfalljgabGreatDoorM20
import Derived.Test.YtklenjmfalljgabGreatDoorM21
namespace Go.Proofs.YtklenjmfalljgabGreatDoor
set_option maxRecDepth 100000
set_option maxHeartbeats 8000000
section
open Go.RowKit
attribute [local go_sem] Go.World.cell?_alloc_some
theorem x6(a b:Addr)(w:World):
  CallsD Tryz.prog 96 #[.pointer (some a),.pointer (some b)] .returning w fun e u' w'=>e= .returned (.tuple #[])/\u'= .returning/\w'=w:=by
 refine callsD_of_wpS Tryz.func96 rfl fun c₀ cs hu=>?_
 apply wpS_seq;apply wpS_region;simp [wpOpsS,go_sem,recoverD,hu,Tryz.ntmps96,Exit.thenS];refine wpS_of_wp ?_;have d:Array.replicate 11 undef=#[undef,undef,undef,undef,undef,undef,undef,undef,undef,undef,undef]:=rfl;simp only [d,List.append_toArray,List.setIfInBounds_toArray,List.set_cons_succ,List.set_cons_zero,List.cons_append,List.nil_append];go_wp2_with fail
 cases c₀
 simp_all [bodyPostS,results,Tryz.results96]
theorem tJ(a d:Nat)(i:List PanicEntry)(n k m o j h:Value)(w:World)(b:w.heap[a]?=some (.cells #[n,k,m,o,j] 56 (0,0)))(f:w.heap[d]?=some (.cells #[h] 32 (0,0)))(l:a≠d):
  CallsD Tryz.prog 96 #[pt a,pt d] (.panicking ({ v:= .iface 174 (.int .i64 3),recovered:=false}::i)) w fun e u' w'=>e= .returned (.tuple #[])/\u'= .panicking ({ v:= .iface 174 (.int .i64 3),recovered:=true}::i)/\
   w'=((((((w.setCell ⟨a,0,none⟩ (.slice none 0 0)).setCell ⟨a,1,none⟩ (.slice none 0 0)).setCell ⟨a,2,none⟩ (.int .i64 0)).setCell ⟨a,3,none⟩ (.int .i64 0)).setCell ⟨a,4,none⟩ (.int .i64 0)).setCell ⟨d,0,none⟩ (.int .i64 3)):=by
 unfold pt;refine callsD_of_wpS Tryz.func96 rfl fun c₀ cs hu=>?_
 apply wpS_seq;apply wpS_region;simp [wpOpsS,go_sem,recoverD,hu,Tryz.ntmps96,Exit.thenS];refine wpS_of_wp ?_;have p:Array.replicate 11 undef=#[undef,undef,undef,undef,undef,undef,undef,undef,undef,undef,undef]:=rfl;simp only [p,List.append_toArray,List.setIfInBounds_toArray,List.set_cons_succ,List.set_cons_zero,List.cons_append,List.nil_append];have d0:w.cell? ⟨a,0,none⟩=some n:=by simp [World.cell?,b]
 have d1:w.cell? ⟨a,1,none⟩=some k:=by simp [World.cell?,b]
 have d2:w.cell? ⟨a,2,none⟩=some m:=by simp [World.cell?,b]
 have d3:w.cell? ⟨a,3,none⟩=some o:=by simp [World.cell?,b]
 have d4:w.cell? ⟨a,4,none⟩=some j:=by simp [World.cell?,b]
 have d5:w.cell? ⟨d,0,none⟩=some h:=by simp [World.cell?,f]
 have z0:w.frozen? ⟨a,0,none⟩=false:=by simp [World.frozen?,b]
 have z1:w.frozen? ⟨a,1,none⟩=false:=by simp [World.frozen?,b]
 have z2:w.frozen? ⟨a,2,none⟩=false:=by simp [World.frozen?,b]
 have z3:w.frozen? ⟨a,3,none⟩=false:=by simp [World.frozen?,b]
 have z4:w.frozen? ⟨a,4,none⟩=false:=by simp [World.frozen?,b]
 have z5:w.frozen? ⟨d,0,none⟩=false:=by simp [World.frozen?,f]
 have hba:¬d=a:=fun e=>l e.symm
 have hab':¬a=d:=l;clear b f;have hta:∀ w:World,(Instr.typeAssert (.iface 174 (.int .i64 3)) 20 174 true).run Tryz.prog w= .ok (.tuple #[.int .i64 3,.bool true]) w:=fun _=>by kernel_rfl
 go_wp2_with fail
 simp [bodyPostS,results,Tryz.results96]
def DecS(w:World)(L:Nat)(s:ByteArray)(e:Ending)(w':World):Prop:=w.grownBy w' none/\
 ((kj (byt s)=none/\e= .returned (.tuple #[pO (.slice none 0 0) (.slice none 0 0) (0,0,0),.int .i64 3]))\/
 ∃ a tv sv,kj (byt s)=some a/\e= .returned (.tuple #[pO tv sv a.ver,.int .i64 0])/\ThrAt L w'.heap.size w' tv a.prog/\w'.ownsRow L 3 1 sv a.sch.length (iM a.sch))
theorem zN(w:World)(a b:Nat)(B z A C v p:Value)(y:w.heap[a]?=some (.cells #[B,z,A,C,v] 56 (0,0)))(r:w.heap[b]?=some (.cells #[p] 32 (0,0)))(j:a≠b)(h e f c d l:Value):
  let w':=(((((w.setCell ⟨a,0,none⟩ h).setCell ⟨a,1,none⟩ e).setCell ⟨a,2,none⟩ f).setCell ⟨a,3,none⟩ c).setCell ⟨a,4,none⟩ d).setCell ⟨b,0,none⟩ l
  w'.cell? ⟨a,0,none⟩=some h/\w'.cell? ⟨a,1,none⟩=some e/\w'.cell? ⟨a,2,none⟩=some f/\w'.cell? ⟨a,3,none⟩=some c/\w'.cell? ⟨a,4,none⟩=some d/\w'.cell? ⟨b,0,none⟩=some l/\
   (w'.os=w.os/\w'.tape=w.tape/\w'.output=w.output/\w'.heap.size=w.heap.size/\∀ k,k≠a->k≠b->w'.heap[k]?=w.heap[k]?):=by
 have i:=heap_setCell_same w a 0 _ _ h y;have m:=heap_setCell_same _ a 1 _ _ e i;have q:=heap_setCell_same _ a 2 _ _ f m;have u:=heap_setCell_same _ a 3 _ _ c q;have x:=heap_setCell_same _ a 4 _ _ d u;have s:((((((w.setCell ⟨a,0,none⟩ h).setCell ⟨a,1,none⟩ e).setCell ⟨a,2,none⟩ f).setCell ⟨a,3,none⟩ c).setCell ⟨a,4,none⟩ d)).heap[b]?=some (.cells #[p] 32 (0,0)):=by
  rw [heap_setCell_other _ _ _ _ (Ne.symm j),heap_setCell_other _ _ _ _ (Ne.symm j),heap_setCell_other _ _ _ _ (Ne.symm j),heap_setCell_other _ _ _ _ (Ne.symm j),heap_setCell_other _ _ _ _ (Ne.symm j)];exact r
 have t:=heap_setCell_same _ b 0 _ _ l s;have g6:(((((((w.setCell ⟨a,0,none⟩ h).setCell ⟨a,1,none⟩ e).setCell ⟨a,2,none⟩ f).setCell ⟨a,3,none⟩ c).setCell ⟨a,4,none⟩ d)).setCell ⟨b,0,none⟩ l).heap[a]?=some (.cells #[h,e,f,c,d] 56 (0,0)):=by
  rw [heap_setCell_other _ _ _ _ j];exact x
 refine⟨?_,?_,?_,?_,?_,?_,?_⟩
 ·simp [World.cell?,g6]
 ·simp [World.cell?,g6]
 ·simp [World.cell?,g6]
 ·simp [World.cell?,g6]
 ·simp [World.cell?,g6]
 ·simp [World.cell?,t]
 ·have o:w.grownBy (((((w.setCell ⟨a,0,none⟩ h).setCell ⟨a,1,none⟩ e).setCell ⟨a,2,none⟩ f).setCell ⟨a,3,none⟩ c).setCell ⟨a,4,none⟩ d) (some a):=ip (ip (ip (ip iW iW) iW) iW) iW;have n:(((((w.setCell ⟨a,0,none⟩ h).setCell ⟨a,1,none⟩ e).setCell ⟨a,2,none⟩ f).setCell ⟨a,3,none⟩ c).setCell ⟨a,4,none⟩ d).grownBy ((((((w.setCell ⟨a,0,none⟩ h).setCell ⟨a,1,none⟩ e).setCell ⟨a,2,none⟩ f).setCell ⟨a,3,none⟩ c).setCell ⟨a,4,none⟩ d).setCell ⟨b,0,none⟩ l) (some b):=iW;refine⟨n.os.trans o.os,n.tape.trans o.tape,n.output.trans o.output,by simp,fun k i m=>?_⟩;rw [heap_setCell_other _ _ _ _ m,heap_setCell_other _ _ _ _ i,heap_setCell_other _ _ _ _ i,heap_setCell_other _ _ _ _ i,heap_setCell_other _ _ _ _ i,heap_setCell_other _ _ _ _ i]
theorem uC{w w3 w4 wz:World}{b ba be:Nat}(h:w.grownBy w3 none)(h':w3.grownBy w4 (some b))(hz:wz.os=w4.os/\wz.tape=w4.tape/\wz.output=w4.output/\wz.heap.size=w4.heap.size/\∀ k,k≠ba->k≠be->wz.heap[k]?=w4.heap[k]?)
  (hb:w.heap.size<=b) (ha:w.heap.size<=ba) (he:w.heap.size<=be):w.grownBy wz none:=
 ⟨hz.1.trans (h'.os.trans h.os),hz.2.1.trans (h'.tape.trans h.tape),hz.2.2.1.trans (h'.output.trans h.output),by rw [hz.2.2.2.1];exact Nat.le_trans h.size h'.size,fun k hk _=>by
  rw [hz.2.2.2.2 k (by omega) (by omega),h'.block k (Nat.lt_of_lt_of_le hk h.size) (fun e=>by simp only [Option.some.injEq]at e;omega)];exact h.block k hk (by simp)⟩
theorem nR{w w3 w4:World}{b:Nat}(h:w.grownBy w3 none)(h':w3.grownBy w4 (some b))(hb:w.heap.size<=b):w.grownBy w4 none:=
 ⟨h'.os.trans h.os,h'.tape.trans h.tape,h'.output.trans h.output,Nat.le_trans h.size h'.size,fun k hk _=>by
  rw [h'.block k (Nat.lt_of_lt_of_le hk h.size) (fun e=>by simp only [Option.some.injEq]at e;omega)];exact h.block k hk (by simp)⟩
theorem FI(s:ByteArray)(w:World)(U:ShpAt w)(Z:s.size<=9223372036854775806):
  Calls Tryz.prog 70 #[.string s] w (DecS w (w.heap.size+5) s):=by
 have hmf:∀ (fn:Fn) (first cap:Array Value) (w:World),(Instr.makeFunc fn first cap).run Tryz.prog w= .ok (.func fn first cap) w:=fun _ _ _ _=>rfl
 have X:=il U;clear U;go_enter_defers Tryz.func70,Tryz.ntmps70
 go_wp2_with fail
 have k:w.grownBy (((w.alloc (.cells #[.slice none 0 0,.slice none 0 0,.int .i64 0,.int .i64 0,.int .i64 0] 56)).alloc (.cells #[.int .i64 0] 32)).alloc (.cells #[.string s,.int .i64 0] 176)) none:=ir (ir (ir (iu _ _)));have H:(((w.alloc (.cells #[.slice none 0 0,.slice none 0 0,.int .i64 0,.int .i64 0,.int .i64 0] 56)).alloc (.cells #[.int .i64 0] 32)).alloc (.cells #[.string s,.int .i64 0] 176)).heap[w.heap.size]?=some (.cells #[.slice none 0 0,.slice none 0 0,.int .i64 0,.int .i64 0,.int .i64 0] 56 (0,0)):=by
  rw [Below.heap_alloc _ _ _ (by simp;omega),Below.heap_alloc _ _ _ (by simp)];exact heap_alloc_new _ _
 have G:(((w.alloc (.cells #[.slice none 0 0,.slice none 0 0,.int .i64 0,.int .i64 0,.int .i64 0] 56)).alloc (.cells #[.int .i64 0] 32)).alloc (.cells #[.string s,.int .i64 0] 176)).heap[w.heap.size+1]?=some (.cells #[.int .i64 0] 32 (0,0)):=by
  rw [Below.heap_alloc _ _ _ (by simp)];have:=heap_alloc_new (w.alloc (.cells #[.slice none 0 0,.slice none 0 0,.int .i64 0,.int .i64 0,.int .i64 0] 56)) (.cells #[.int .i64 0] 32);simpa using this
 have z:(((w.alloc (.cells #[.slice none 0 0,.slice none 0 0,.int .i64 0,.int .i64 0,.int .i64 0] 56)).alloc (.cells #[.int .i64 0] 32)).alloc (.cells #[.string s,.int .i64 0] 176)).heap[w.heap.size+1+1]?=some (.cells #[.string s,.int .i64 0] 176 (0,0)):=by
  have:=heap_alloc_new ((w.alloc (.cells #[.slice none 0 0,.slice none 0 0,.int .i64 0,.int .i64 0,.int .i64 0] 56)).alloc (.cells #[.int .i64 0] 32)) (.cells #[.string s,.int .i64 0] 176);simpa using this
 have R:(((w.alloc (.cells #[.slice none 0 0,.slice none 0 0,.int .i64 0,.int .i64 0,.int .i64 0] 56)).alloc (.cells #[.int .i64 0] 32)).alloc (.cells #[.string s,.int .i64 0] 176)).heap.size=w.heap.size+3:=by simp
 generalize (((w.alloc (.cells #[.slice none 0 0,.slice none 0 0,.int .i64 0,.int .i64 0,.int .i64 0] 56)).alloc (.cells #[.int .i64 0] 32)).alloc (.cells #[.string s,.int .i64 0] 176))=w3 at k H G z R ⊢;have aa:=il (yu w3 (w.heap.size+1+1) s (ShpAt.pres X.out (iq k)) (by omega) ⟨z,iu _ _,Nat.zero_le _⟩ Z);have d:Hid (w3.heap.size+2=w.heap.size+5):=by unfold Hid;omega
 have T:=il k;have O:∀ b,w3.grownBy b (some (w.heap.size+1+1))->b.heap[w.heap.size]?=some (.cells #[.slice none 0 0,.slice none 0 0,.int .i64 0,.int .i64 0,.int .i64 0] 56 (0,0))/\b.heap[w.heap.size+1]?=some (.cells #[.int .i64 0] 32 (0,0)):=fun b h=>
  ⟨by rw [h.block _ (by omega) (by simp only [ne_eq,Option.some.injEq];omega)];exact H,by rw [h.block _ (by omega) (by simp only [ne_eq,Option.some.injEq];omega)];exact G⟩
 have M:=il O;clear k H G z R O;refine aa.out.mono ?_;rintro e b (⟨j,rfl,h⟩ | ⟨a,tv,sv,j,rfl,F,A,h⟩)
 ·have C:=il j;obtain⟨c,i⟩:=M.out b h;have K:=il h;clear j h;go_wp2_with fail
  refine leaves_cons (f:=96) (args:= #[pt w.heap.size,pt (w.heap.size+1)]) (by simp) (by simp [go_sem,pt]) ?_;refine(tJ w.heap.size (w.heap.size+1) [] _ _ _ _ _ _ b c i (by omega)).mono ?_;rintro e Y w5 ⟨rfl,rfl,rfl⟩;have J:=zN b w.heap.size (w.heap.size+1) _ _ _ _ _ _ c i (by omega) (.slice none 0 0) (.slice none 0 0) (.int .i64 0) (.int .i64 0) (.int .i64 0) (.int .i64 3);generalize ((((((b.setCell ⟨w.heap.size,0,none⟩ (.slice none 0 0)).setCell ⟨w.heap.size,1,none⟩ (.slice none 0 0)).setCell ⟨w.heap.size,2,none⟩ (.int .i64 0)).setCell ⟨w.heap.size,3,none⟩ (.int .i64 0)).setCell ⟨w.heap.size,4,none⟩ (.int .i64 0)).setCell ⟨w.heap.size+1,0,none⟩ (.int .i64 3))=wz at J ⊢;obtain⟨B,y,D,I,L,E,x⟩:=J;simp [Leaves,settle,results,Tryz.results70,go_sem,B,y,D,I,L,E];refine⟨uC T.out K.out x (by omega) (by omega) (by omega),Or.inl ⟨C.out,rfl⟩⟩
 ·have C:=il j;obtain⟨c,i⟩:=M.out b h;have K:=il h;obtain⟨r,m,t,rfl⟩:=iy F.choose_spec.1;obtain⟨n,q,v,rfl⟩:=iy A;obtain⟨p,l,x1,x2,x3⟩:=a;have V:=il F;have S:=il A;have d0:b.cell? ⟨w.heap.size,0,none⟩=some (.slice none 0 0):=by simp [World.cell?,c]
  have z0:b.frozen? ⟨w.heap.size,0,none⟩=false:=by simp [World.frozen?,c]
  have d1:b.cell? ⟨w.heap.size,1,none⟩=some (.slice none 0 0):=by simp [World.cell?,c]
  have z1:b.frozen? ⟨w.heap.size,1,none⟩=false:=by simp [World.frozen?,c]
  have d2:b.cell? ⟨w.heap.size,2,none⟩=some (.int .i64 0):=by simp [World.cell?,c]
  have z2:b.frozen? ⟨w.heap.size,2,none⟩=false:=by simp [World.frozen?,c]
  have d3:b.cell? ⟨w.heap.size,3,none⟩=some (.int .i64 0):=by simp [World.cell?,c]
  have z3:b.frozen? ⟨w.heap.size,3,none⟩=false:=by simp [World.frozen?,c]
  have d4:b.cell? ⟨w.heap.size,4,none⟩=some (.int .i64 0):=by simp [World.cell?,c]
  have z4:b.frozen? ⟨w.heap.size,4,none⟩=false:=by simp [World.frozen?,c]
  have d5:b.cell? ⟨w.heap.size+1,0,none⟩=some (.int .i64 0):=by simp [World.cell?,i]
  have z5:b.frozen? ⟨w.heap.size+1,0,none⟩=false:=by simp [World.frozen?,i]
  clear j h F A;unfold pO;simp only at V S ⊢;go_wp2_with fail
  refine leaves_cons (f:=96) (args:= #[pt w.heap.size,pt (w.heap.size+1)]) (by simp) (by simp [go_sem,pt]) ?_;refine(x6 ⟨w.heap.size,0,none⟩ ⟨w.heap.size+1,0,none⟩ _).mono ?_;rintro e Y w5 ⟨rfl,rfl,rfl⟩;have J:=zN b w.heap.size (w.heap.size+1) _ _ _ _ _ _ c i (by omega) (.slice r m t) (.slice n q v) (.int .i64 x1) (.int .i64 x2) (.int .i64 x3) (.int .i64 0);have Q:=il (jm (g:=w.heap.size+1) (o:=0) (u:= .int .i64 0) (jm (g:=w.heap.size) (o:=4) (u:= .int .i64 x3) (jm (g:=w.heap.size) (o:=3) (u:= .int .i64 x2) (jm (g:=w.heap.size) (o:=2) (u:= .int .i64 x1) (jm (g:=w.heap.size) (o:=1) (u:= .slice n q v) (jm (g:=w.heap.size) (o:=0) (u:= .slice r m t) V.out (by have:=d.out;omega)) (by have:=d.out;omega)) (by have:=d.out;omega)) (by have:=d.out;omega)) (by have:=d.out;omega)) (by have:=d.out;omega));have W:=il (jf (g:=w.heap.size+1) (o:=0) (u:= .int .i64 0) (jf (g:=w.heap.size) (o:=4) (u:= .int .i64 x3) (jf (g:=w.heap.size) (o:=3) (u:= .int .i64 x2) (jf (g:=w.heap.size) (o:=2) (u:= .int .i64 x1) (jf (g:=w.heap.size) (o:=1) (u:= .slice n q v) (jf (g:=w.heap.size) (o:=0) (u:= .slice r m t) S.out (by have:=d.out;omega)) (by have:=d.out;omega)) (by have:=d.out;omega)) (by have:=d.out;omega)) (by have:=d.out;omega)) (by have:=d.out;omega));generalize ((((((b.setCell ⟨w.heap.size,0,none⟩ (.slice r m t)).setCell ⟨w.heap.size,1,none⟩ (.slice n q v)).setCell ⟨w.heap.size,2,none⟩ (.int .i64 x1)).setCell ⟨w.heap.size,3,none⟩ (.int .i64 x2)).setCell ⟨w.heap.size,4,none⟩ (.int .i64 x3)).setCell ⟨w.heap.size+1,0,none⟩ (.int .i64 0))=wz at J Q W ⊢;obtain⟨B,y,D,I,L,E,x⟩:=J;simp [Leaves,settle,results,Tryz.results70,go_sem,B,y,D,I,L,E];have N:=Q.out;have P:=W.out;rw [d.out]at N P;exact⟨uC T.out K.out x (by omega) (by omega) (by omega),Or.inr ⟨_,_,_,C.out,rfl,N,P⟩⟩
theorem pc(w:World)(a:Nat)(q l n r j:Value)(k:w.heap[a]?=some (.cells #[q,l,n,r,j] 56 (0,0)))(h f d e c:Value):
  let w':=((((w.setCell ⟨a,0,none⟩ h).setCell ⟨a,1,none⟩ f).setCell ⟨a,2,none⟩ d).setCell ⟨a,3,none⟩ e).setCell ⟨a,4,none⟩ c
  w'.cell? ⟨a,0,none⟩=some h/\w'.cell? ⟨a,1,none⟩=some f/\w'.cell? ⟨a,2,none⟩=some d/\w'.cell? ⟨a,3,none⟩=some e/\w'.cell? ⟨a,4,none⟩=some c/\w.grownBy w' (some a):=by
 have p:=heap_setCell_same w a 0 _ _ h k;have m:=heap_setCell_same _ a 1 _ _ f p;have i:=heap_setCell_same _ a 2 _ _ d m;have o:=heap_setCell_same _ a 3 _ _ e i;have b:=heap_setCell_same _ a 4 _ _ c o;refine⟨?_,?_,?_,?_,?_,ip (ip (ip (ip iW iW) iW) iW) iW⟩
 ·simp [World.cell?,b]
 ·simp [World.cell?,b]
 ·simp [World.cell?,b]
 ·simp [World.cell?,b]
 ·simp [World.cell?,b]
theorem Cg(s:ByteArray)(w:World)(R:ShpAt w)(X:s.size<=9223372036854775806):
  Calls Tryz.prog 41 #[.string s] w (DecS w (w.heap.size+6) s):=by
 have V:=il R;clear R;go_enter Tryz.func41,Tryz.ntmps41
 go_wp2_with fail
 have n:w.grownBy (w.alloc (.cells #[.slice none 0 0,.slice none 0 0,.int .i64 0,.int .i64 0,.int .i64 0] 56)) none:=ir (iu _ _);have r:=heap_alloc_new w (.cells #[.slice none 0 0,.slice none 0 0,.int .i64 0,.int .i64 0,.int .i64 0] 56);have N:(w.alloc (.cells #[.slice none 0 0,.slice none 0 0,.int .i64 0,.int .i64 0,.int .i64 0] 56)).heap.size=w.heap.size+1:=by simp
 generalize w.alloc (.cells #[.slice none 0 0,.slice none 0 0,.int .i64 0,.int .i64 0,.int .i64 0] 56)=w1 at n r N ⊢;have Q:=il (FI s w1 (ShpAt.pres V.out (iq n)) X);have Y:Hid (w1.heap.size+5=w.heap.size+6):=by unfold Hid;omega
 rw [Y.out]at Q;have W:=il n;refine Q.out.mono ?_;rintro e b ⟨t,d⟩;have c:b.heap[w.heap.size]?=some (.cells #[.slice none 0 0,.slice none 0 0,.int .i64 0,.int .i64 0,.int .i64 0] 56 (0,0)):=by
  rw [t.block _ (by omega) (by simp)];exact r
 have T:=il (ip W.out t);clear n r t N;rcases d with ⟨d,rfl⟩ | ⟨a,tv,sv,d,rfl,ht,ho⟩
 ·have D:=il d;have B:b.cell? ⟨w.heap.size,0,none⟩=some (.slice none 0 0):=by simp [World.cell?,c]
  have x:b.frozen? ⟨w.heap.size,0,none⟩=false:=by simp [World.frozen?,c]
  have H:b.cell? ⟨w.heap.size,1,none⟩=some (.slice none 0 0):=by simp [World.cell?,c]
  have z1:b.frozen? ⟨w.heap.size,1,none⟩=false:=by simp [World.frozen?,c]
  have I:b.cell? ⟨w.heap.size,2,none⟩=some (.int .i64 0):=by simp [World.cell?,c]
  have E:b.frozen? ⟨w.heap.size,2,none⟩=false:=by simp [World.frozen?,c]
  have y:b.cell? ⟨w.heap.size,3,none⟩=some (.int .i64 0):=by simp [World.cell?,c]
  have F:b.frozen? ⟨w.heap.size,3,none⟩=false:=by simp [World.frozen?,c]
  have z:b.cell? ⟨w.heap.size,4,none⟩=some (.int .i64 0):=by simp [World.cell?,c]
  have K:b.frozen? ⟨w.heap.size,4,none⟩=false:=by simp [World.frozen?,c]
  clear d;unfold pO;simp only;go_wp2_with fail
  have J:=pc b w.heap.size _ _ _ _ _ c (.slice none 0 0) (.slice none 0 0) (.int .i64 0) (.int .i64 0) (.int .i64 0);clear B H I y z x z1 E F K;generalize (((((b.setCell ⟨w.heap.size,0,none⟩ (.slice none 0 0)).setCell ⟨w.heap.size,1,none⟩ (.slice none 0 0)).setCell ⟨w.heap.size,2,none⟩ (.int .i64 0)).setCell ⟨w.heap.size,3,none⟩ (.int .i64 0)).setCell ⟨w.heap.size,4,none⟩ (.int .i64 0))=wz at J ⊢;obtain⟨C,A,G,L,M,q⟩:=J;refine bodyPost_ret (v:= .tuple #[.agg #[.slice none 0 0,.slice none 0 0,.int .i64 0,.int .i64 0,.int .i64 0],.int .i64 3]) ?_ rfl ?_
  ·simp [results,Tryz.results41,go_sem,C,A,G,L,M]
  ·exact⟨nR T.out q (Nat.le_refl _),Or.inl ⟨D.out,rfl⟩⟩
 ·have D:=il d;obtain⟨j,f,k,rfl⟩:=iy ht.choose_spec.1;obtain⟨h,i,m,rfl⟩:=iy ho;obtain⟨p,l,x1,x2,x3⟩:=a;have S:=il ht;have P:=il ho;have B:b.cell? ⟨w.heap.size,0,none⟩=some (.slice none 0 0):=by simp [World.cell?,c]
  have x:b.frozen? ⟨w.heap.size,0,none⟩=false:=by simp [World.frozen?,c]
  have H:b.cell? ⟨w.heap.size,1,none⟩=some (.slice none 0 0):=by simp [World.cell?,c]
  have z1:b.frozen? ⟨w.heap.size,1,none⟩=false:=by simp [World.frozen?,c]
  have I:b.cell? ⟨w.heap.size,2,none⟩=some (.int .i64 0):=by simp [World.cell?,c]
  have E:b.frozen? ⟨w.heap.size,2,none⟩=false:=by simp [World.frozen?,c]
  have y:b.cell? ⟨w.heap.size,3,none⟩=some (.int .i64 0):=by simp [World.cell?,c]
  have F:b.frozen? ⟨w.heap.size,3,none⟩=false:=by simp [World.frozen?,c]
  have z:b.cell? ⟨w.heap.size,4,none⟩=some (.int .i64 0):=by simp [World.cell?,c]
  have K:b.frozen? ⟨w.heap.size,4,none⟩=false:=by simp [World.frozen?,c]
  clear d ht ho;unfold pO;simp only at S P ⊢;go_wp2_with fail
  have J:=pc b w.heap.size _ _ _ _ _ c (.slice j f k) (.slice h i m) (.int .i64 x1) (.int .i64 x2) (.int .i64 x3);have O:=il (jm (g:=w.heap.size) (o:=4) (u:= .int .i64 x3) (jm (g:=w.heap.size) (o:=3) (u:= .int .i64 x2) (jm (g:=w.heap.size) (o:=2) (u:= .int .i64 x1) (jm (g:=w.heap.size) (o:=1) (u:= .slice h i m) (jm (g:=w.heap.size) (o:=0) (u:= .slice j f k) S.out (by omega)) (by omega)) (by omega)) (by omega)) (by omega));have U:=il (jf (g:=w.heap.size) (o:=4) (u:= .int .i64 x3) (jf (g:=w.heap.size) (o:=3) (u:= .int .i64 x2) (jf (g:=w.heap.size) (o:=2) (u:= .int .i64 x1) (jf (g:=w.heap.size) (o:=1) (u:= .slice h i m) (jf (g:=w.heap.size) (o:=0) (u:= .slice j f k) P.out (by omega)) (by omega)) (by omega)) (by omega)) (by omega));clear B H I y z x z1 E F K;generalize (((((b.setCell ⟨w.heap.size,0,none⟩ (.slice j f k)).setCell ⟨w.heap.size,1,none⟩ (.slice h i m)).setCell ⟨w.heap.size,2,none⟩ (.int .i64 x1)).setCell ⟨w.heap.size,3,none⟩ (.int .i64 x2)).setCell ⟨w.heap.size,4,none⟩ (.int .i64 x3))=wz at J O U ⊢;obtain⟨C,A,G,L,M,q⟩:=J;refine bodyPost_ret (v:= .tuple #[.agg #[.slice j f k,.slice h i m,.int .i64 x1,.int .i64 x2,.int .i64 x3],.int .i64 0]) ?_ rfl ?_
  ·simp [results,Tryz.results41,go_sem,C,A,G,L,M]
  ·exact⟨nR T.out q (Nat.le_refl _),Or.inr ⟨_,_,_,D.out,rfl,O.out,U.out⟩⟩
structure WrL(W w:World)(b:Nat)(bv:Value)(l:List Nat)(T c:Nat)(vs:Array Value):Prop where
 wr:WrS W w b bv l
 var:w.heap[c]?=some (.cells vs T (0,0))
 cb:c≠b
 co:bv.ownBlock≠some c
theorem WrL.call{W w w':World}{b T c:Nat}{i a:Value}{l j:List Nat}{d:Array Value}(h:WrL W w b i l T c d)(k:WrS W w' b a j)(f:WrT w w' b i a):WrL W w' b a j T c d:=by
 have hc:=(Array.getElem?_eq_some_iff.1 h.var).1;refine⟨k,by rw [f.keep c hc h.cb h.co];exact h.var,h.cb,fun e=>?_⟩;rcases f.own c e with e | e
 ·exact h.co e
 ·omega
theorem WrL.cell{W w:World}{b T c:Nat}{d:Value}{l:List Nat}{a:Array Value}(h:WrL W w b d l T c a)(o:Nat):w.cell? ⟨c,o,none⟩=a[o]?:=by
 have:=h.var;simp [World.cell?,this]
theorem WrL.start{W w:World}{b:Nat}{a:Value}{l:List Nat}(h:WrS W w b a l)(T:Nat)(c:Array Value):WrL W (w.alloc (.cells c T)) b a l T w.heap.size c:=by
 have hb:=h.lt;refine⟨h.grown (ir (iu _ _)),heap_alloc_new _ _,by omega,fun e=>?_⟩;have:=h.row.lt _ e;omega
theorem AV(W:World)(b:Nat)(v:Int × Int × Int)(p:0<=v.1/\v.1<=9223372036854775807)(o:0<=v.2.1/\v.2.1<=9223372036854775807)(s:0<=v.2.2/\v.2.2<=9223372036854775807)
  (w:World) (j:Value) (l:List Nat) (h:WrS W w b j l) (hl:l.length<=900000):
  Calls Tryz.prog 94 #[pt b,.agg #[.int .i64 v.1,.int .i64 v.2.1,.int .i64 v.2.2]] w (ul W w b j (l++mQ v)):=by
 obtain⟨x,y,z⟩:=v;simp only at p o s ⊢;have I:=il h;have H:pt b= .pointer (some ⟨b,0,none⟩):=rfl;rw [H]at*;clear h;go_enter Tryz.func94,Tryz.ntmps94
 go_wp2_with fail
 have m:=WrL.start I.out 26 #[.int .i64 x,.int .i64 y,.int .i64 z];have u:WrT w (w.alloc (.cells #[.int .i64 x,.int .i64 y,.int .i64 z] 26)) b j j:=(WrT.refl _ _ _).grown (ir (iu _ _));generalize w.alloc (.cells #[.int .i64 x,.int .i64 y,.int .i64 z] 26)=w1 at m u ⊢;refine(mm W b x p.1 p.2 w1 j (l) m.wr (by omega)).mono ?_;rintro e x1 ⟨⟨v1,rfl⟩,G,B,r⟩;have c:=m.call B r;have k:=u.trans r;have c1:x1.cell? ⟨w.heap.size,1,none⟩=some (.int .i64 y):=by simpa using c.cell 1
 have f:=il c;have d:=il k;clear c k m u B r;go_wp2_with fail
 have c:=f.out;have k:=d.out;clear f d c1;refine(mm W b y o.1 o.2 x1 G (l++jx x) c.wr (by simp [jx];have:=mK (n:=x.toNat) (by omega);omega)).mono ?_;rintro e x2 ⟨⟨v2,rfl⟩,K,C,t⟩;have a:=c.call C t;have i:=k.trans t;have J:x2.cell? ⟨w.heap.size,2,none⟩=some (.int .i64 z):=by simpa using a.cell 2
 have f:=il a;have d:=il i;clear a i c k C t;go_wp2_with fail
 have a:=f.out;have i:=d.out;clear f d J;refine(mm W b z s.1 s.2 x2 K (l++jx x++jx y) a.wr (by simp [jx];have:=mK (n:=x.toNat) (by omega);have:=mK (n:=y.toNat) (by omega);omega)).mono ?_;rintro e x3 ⟨⟨v3,rfl⟩,F,E,q⟩;have A:=a.call E q;have D:=i.trans q;have f:=il A.wr;have d:=il D;clear A D a i E q;go_wp2_with fail
 go_end0
 refine⟨⟨_,rfl⟩,F,?_,d.out⟩;have:=f.out;unfold mQ;simpa using this
theorem Em(W:World)(b:Nat)(w:World)(bv:Value)(l:List Nat)(h:WrS W w b bv l)(hl:l.length<=900000)(N:∀ x∈l,x<256):
  Calls Tryz.prog 95 #[pt b] w (ul W w b bv (l++leB 4 (lq l))):=by
 have HH:=il h;have aa:pt b= .pointer (some ⟨b,0,none⟩):=rfl;rw [aa]at*;have c0:=h.cell;have cv:=h.row.str;have X:=il (uz (bs l) w (by rw [rZ];omega));rw [yf N]at X;have hC:=zK l N;generalize lq l=C at*;obtain⟨x1,x3,rfl⟩:=h.row.form;clear h N aa;go_enter Tryz.func95,Tryz.ntmps95
 go_wp2_with (go_at_call 135;refine X.out.mono ?_;rintro e w2 ⟨rfl,O⟩;have Z:=il (HH.out.grown (iL O));have Y:=il ((WrT.refl w b (.slice x1 l.length x3)).grown (iL O));clear O)
 clear c0 cv;go_loopw [10] (fun i w'=>∃ (j:Nat) (bv':Value),j<=4/\i= .int .i64 j/\Hid (WrS W w' b bv' (l++(leB 4 C).take j))/\Hid (WrT w w' b (.slice x1 l.length x3) bv')) (fun i _=>4 - (intOf i).toNat)
 case atStart=>exact⟨0,_,by omega,rfl,il (by simpa using Z.out),Y⟩
 case round=>
  clear HH Z Y X;obtain⟨j,ae,hj,rfl,k,K⟩:=hrel;obtain⟨c,ad⟩:∃ c,c=wr:=⟨_,rfl⟩;rw [<-ad]at k K ⊢;clear ad;have ag:j=0\/j=1\/j=2\/j=3\/j=4:=by omega
  rcases ag with rfl | rfl | rfl | rfl | rfl
  ·have HX:Hid ((leB 4 C).take 1=(leB 4 C).take 0++[C % 256]):=by unfold Hid;simp [leB,Nat.div_div_eq_div_mul]
   have R:IntKind.i64.wrap 0=0:=by decide
   have T:IntKind.u8.wrap ((C:Int))=((C % 256:Nat):Int):=by rw [IntKind.wrap_u8'];omega
   have U:(l++(leB 4 C).take 0).length<=1000000:=by simp;omega
   generalize C % 256=y at*;generalize n:l++(leB 4 C).take 0=L at*;have J:=il n;clear n;obtain⟨d,f,rfl⟩:=k.out.row.form;have H:c.cell? ⟨b,0,none⟩=some (.slice d L.length f):=k.out.cell;go_wp2_with fail
   refine iA (fun u=>u.cell? ⟨b,0,none⟩=some (.slice d L.length f)) 14 (by kernel_rfl) (by kernel_rfl) ?_ ?_
   ·simp [go_sem,H]
   intro S;refine ij 0 ?v0_1 rfl (by kernel_rfl) (fun _ _ _ h=>h) (by rfl) ?y0_1 (by assumption) ?_
   case y0_1=>(intro u a;go_simp;try rfl)
   simp only [Act.put,List.setIfInBounds_toArray];refine ij 1 ?v1_2 rfl (by kernel_rfl) (fun _ _ _ h=>h) (by rfl) ?y1_2 (by assumption) ?_
   case y1_2=>(intro u a;go_simp;try rfl)
   simp only [Act.put];refine ij 2 ?v2_3 rfl (by kernel_rfl) (fun _ _ _ h=>h) (by rfl) ?y2_3 (by assumption) ?_
   case y2_3=>(intro u a;go_simp;try rfl)
   simp only [Act.put];refine ij 3 ?v3_4 rfl (by kernel_rfl) (fun _ _ _ h=>h) (by rfl) ?y3_4 (by assumption) ?_
   case y3_4=>(intro u a;go_simp;try rfl)
   simp only [Act.put];refine ij 4 ?v4_5 rfl (by kernel_rfl) (fun _ _ _ h=>h) (by rfl) ?y4_5 (by assumption) ?_
   case y4_5=>(intro u a;go_simp;try rfl)
   simp only [Act.put];refine ij 5 ?v5_6 rfl (by kernel_rfl) (fun _ _ _ h=>h) (by rfl) ?y5_6 (by assumption) ?_
   case y5_6=>(intro u a;go_simp;try rfl)
   simp only [Act.put];refine ij 6 ?v6_7 rfl (by kernel_rfl) (fun _ _ _ h=>h) (by rfl) ?y6_7 (by assumption) ?_
   case y6_7=>(intro u a;go_simp;try rfl)
   simp only [Act.put];refine ij 7 ?v7_8 rfl (by kernel_rfl) (fun _ _ _ h=>h) (by rfl) ?y7_8 (by assumption) ?_
   case y7_8=>(intro u a;go_simp;try rfl)
   simp only [Act.put];refine ij 8 ?v8_9 rfl (by kernel_rfl) (fun _ _ _ h=>h) (by rfl) ?y8_9 (by assumption) ?_
   case y8_9=>(intro u a;go_simp;try rfl)
   simp only [Act.put];refine ij 9 ?v9_10 rfl (by kernel_rfl) (fun _ _ _ h=>h) (by rfl) ?y9_10 (by assumption) ?_
   case y9_10=>(intro u a;go_simp;try rfl)
   simp only [Act.put];have m:Hid (WrS W c.drew b (.slice d L.length f) L):=k.out.grown (iz (iu _ _));have D:Hid (WrT w c.drew b (.slice x1 l.length x3) (.slice d L.length f)):=K.out.grown (iz (iu _ _));have M:W.heap.size<=c.heap.size:=k.out.base.size;refine iw (i:=10) rfl (by kernel_rfl) (by kernel_rfl) (by rfl) ?_;intro Q B;have s:=il B;clear B;go_simp;refine s.out _ _ (iq (ir (iu _ _)) _ _ m.out.cell) ?_;clear s;try simp only [Act.put,List.setIfInBounds_toArray]
   refine iw (i:=11) rfl (by kernel_rfl) (by kernel_rfl) (by rfl) ?_;intro P t;have r:=il t;clear t;refine mS _ (.tmp 17) (.tmp 23) (by rfl) W.heap.size (.slice d L.length f) L.length (u8s L) (by rfl) m.out.row.alloc c.heap.size (.int .u8 (y:Int)) (by rfl) (heap_alloc_new c.drew _) rfl (by omega) (by simp;omega) (c.heap.size+1) (by simp) ?_;intro g6 v w6 A z q F;obtain⟨o,I,V,p⟩:=m.out.push A z q;have E:Hid (WrS W (w6.setCell ⟨b,0,none⟩ (.slice (some ⟨g6,0,none⟩) (L.length+1) v)) b (.slice (some ⟨g6,0,none⟩) (L.length+1) v) (l++(leB 4 C).take 1)):=by
    unfold Hid;rw [HX.out,<-List.append_assoc,J.out];exact o
   have G:=il (D.out.trans p);clear o p A z q F;refine r.out _ _ I ?_;clear r;try simp only [Act.put,List.setIfInBounds_toArray]
   refine ij 12 ?v12_0b rfl (by kernel_rfl) (fun _ _ _ h=>h) (by rfl) ?y12_0b (by assumption) ?_
   case y12_0b=>(intro u a;go_simp;try rfl)
   simp only [Act.put];refine ij 13 ?v13_0b rfl (by kernel_rfl) (fun _ _ _ h=>h) (by rfl) ?y13_0b (by assumption) ?_
   case y13_0b=>(intro u a;go_simp;try rfl)
   simp only [Act.put];refine iI rfl (by kernel_rfl) (by kernel_rfl) (by rfl) ?_;go_simp;go_wp2
   go_roundw
   case rel=>exact⟨1,_,by omega,by first | rfl | go_num,E,G⟩
   case measure=>simp [intOf]
  ·have HX:Hid ((leB 4 C).take 2=(leB 4 C).take 1++[C / 256 % 256]):=by unfold Hid;simp [leB,Nat.div_div_eq_div_mul]
   have R:IntKind.i64.wrap 8=8:=by decide
   have T:IntKind.u8.wrap ((C:Int) / 256)=((C / 256 % 256:Nat):Int):=by rw [IntKind.wrap_u8'];omega
   have U:(l++(leB 4 C).take 1).length<=1000000:=by simp [o8];omega
   generalize C / 256 % 256=y at*;generalize n:l++(leB 4 C).take 1=L at*;have J:=il n;clear n;obtain⟨d,f,rfl⟩:=k.out.row.form;have H:c.cell? ⟨b,0,none⟩=some (.slice d L.length f):=k.out.cell;go_wp2_with fail
   refine iA (fun u=>u.cell? ⟨b,0,none⟩=some (.slice d L.length f)) 14 (by kernel_rfl) (by kernel_rfl) ?_ ?_
   ·simp [go_sem,H]
   intro S;refine ij 0 ?v0_11 rfl (by kernel_rfl) (fun _ _ _ h=>h) (by rfl) ?y0_11 (by assumption) ?_
   case y0_11=>(intro u a;go_simp;try rfl)
   simp only [Act.put,List.setIfInBounds_toArray];refine ij 1 ?v1_12 rfl (by kernel_rfl) (fun _ _ _ h=>h) (by rfl) ?y1_12 (by assumption) ?_
   case y1_12=>(intro u a;go_simp;try rfl)
   simp only [Act.put];refine ij 2 ?v2_13 rfl (by kernel_rfl) (fun _ _ _ h=>h) (by rfl) ?y2_13 (by assumption) ?_
   case y2_13=>(intro u a;go_simp;try rfl)
   simp only [Act.put];refine ij 3 ?v3_14 rfl (by kernel_rfl) (fun _ _ _ h=>h) (by rfl) ?y3_14 (by assumption) ?_
   case y3_14=>(intro u a;go_simp;try rfl)
   simp only [Act.put];refine ij 4 ?v4_15 rfl (by kernel_rfl) (fun _ _ _ h=>h) (by rfl) ?y4_15 (by assumption) ?_
   case y4_15=>(intro u a;go_simp;try rfl)
   simp only [Act.put];refine ij 5 ?v5_16 rfl (by kernel_rfl) (fun _ _ _ h=>h) (by rfl) ?y5_16 (by assumption) ?_
   case y5_16=>(intro u a;go_simp;try rfl)
   simp only [Act.put];refine ij 6 ?v6_17 rfl (by kernel_rfl) (fun _ _ _ h=>h) (by rfl) ?y6_17 (by assumption) ?_
   case y6_17=>(intro u a;go_simp;try rfl)
   simp only [Act.put];refine ij 7 ?v7_18 rfl (by kernel_rfl) (fun _ _ _ h=>h) (by rfl) ?y7_18 (by assumption) ?_
   case y7_18=>(intro u a;go_simp;try rfl)
   simp only [Act.put];refine ij 8 ?v8_19 rfl (by kernel_rfl) (fun _ _ _ h=>h) (by rfl) ?y8_19 (by assumption) ?_
   case y8_19=>(intro u a;go_simp;try rfl)
   simp only [Act.put];refine ij 9 ?v9_20 rfl (by kernel_rfl) (fun _ _ _ h=>h) (by rfl) ?y9_20 (by assumption) ?_
   case y9_20=>(intro u a;go_simp;try rfl)
   simp only [Act.put];have m:Hid (WrS W c.drew b (.slice d L.length f) L):=k.out.grown (iz (iu _ _));have D:Hid (WrT w c.drew b (.slice x1 l.length x3) (.slice d L.length f)):=K.out.grown (iz (iu _ _));have M:W.heap.size<=c.heap.size:=k.out.base.size;refine iw (i:=10) rfl (by kernel_rfl) (by kernel_rfl) (by rfl) ?_;intro Q B;have s:=il B;clear B;go_simp;refine s.out _ _ (iq (ir (iu _ _)) _ _ m.out.cell) ?_;clear s;try simp only [Act.put,List.setIfInBounds_toArray]
   refine iw (i:=11) rfl (by kernel_rfl) (by kernel_rfl) (by rfl) ?_;intro P t;have r:=il t;clear t;refine mS _ (.tmp 17) (.tmp 23) (by rfl) W.heap.size (.slice d L.length f) L.length (u8s L) (by rfl) m.out.row.alloc c.heap.size (.int .u8 (y:Int)) (by rfl) (heap_alloc_new c.drew _) rfl (by omega) (by simp;omega) (c.heap.size+1) (by simp) ?_;intro g6 v w6 A z q F;obtain⟨o,I,V,p⟩:=m.out.push A z q;have E:Hid (WrS W (w6.setCell ⟨b,0,none⟩ (.slice (some ⟨g6,0,none⟩) (L.length+1) v)) b (.slice (some ⟨g6,0,none⟩) (L.length+1) v) (l++(leB 4 C).take 2)):=by
    unfold Hid;rw [HX.out,<-List.append_assoc,J.out];exact o
   have G:=il (D.out.trans p);clear o p A z q F;refine r.out _ _ I ?_;clear r;try simp only [Act.put,List.setIfInBounds_toArray]
   refine ij 12 ?v12_1b rfl (by kernel_rfl) (fun _ _ _ h=>h) (by rfl) ?y12_1b (by assumption) ?_
   case y12_1b=>(intro u a;go_simp;try rfl)
   simp only [Act.put];refine ij 13 ?v13_1b rfl (by kernel_rfl) (fun _ _ _ h=>h) (by rfl) ?y13_1b (by assumption) ?_
   case y13_1b=>(intro u a;go_simp;try rfl)
   simp only [Act.put];refine iI rfl (by kernel_rfl) (by kernel_rfl) (by rfl) ?_;go_simp;go_wp2
   go_roundw
   case rel=>exact⟨2,_,by omega,by first | rfl | go_num,E,G⟩
   case measure=>simp [intOf]
  ·have HX:Hid ((leB 4 C).take 3=(leB 4 C).take 2++[C / 65536 % 256]):=by unfold Hid;simp [leB,Nat.div_div_eq_div_mul]
   have R:IntKind.i64.wrap 16=16:=by decide
   have T:IntKind.u8.wrap ((C:Int) / 65536)=((C / 65536 % 256:Nat):Int):=by rw [IntKind.wrap_u8'];omega
   have U:(l++(leB 4 C).take 2).length<=1000000:=by simp [o8];omega
   generalize C / 65536 % 256=y at*;generalize n:l++(leB 4 C).take 2=L at*;have J:=il n;clear n;obtain⟨d,f,rfl⟩:=k.out.row.form;have H:c.cell? ⟨b,0,none⟩=some (.slice d L.length f):=k.out.cell;go_wp2_with fail
   refine iA (fun u=>u.cell? ⟨b,0,none⟩=some (.slice d L.length f)) 14 (by kernel_rfl) (by kernel_rfl) ?_ ?_
   ·simp [go_sem,H]
   intro S;refine ij 0 ?v0_21 rfl (by kernel_rfl) (fun _ _ _ h=>h) (by rfl) ?y0_21 (by assumption) ?_
   case y0_21=>(intro u a;go_simp;try rfl)
   simp only [Act.put,List.setIfInBounds_toArray];refine ij 1 ?v1_22 rfl (by kernel_rfl) (fun _ _ _ h=>h) (by rfl) ?y1_22 (by assumption) ?_
   case y1_22=>(intro u a;go_simp;try rfl)
   simp only [Act.put];refine ij 2 ?v2_23 rfl (by kernel_rfl) (fun _ _ _ h=>h) (by rfl) ?y2_23 (by assumption) ?_
   case y2_23=>(intro u a;go_simp;try rfl)
   simp only [Act.put];refine ij 3 ?v3_24 rfl (by kernel_rfl) (fun _ _ _ h=>h) (by rfl) ?y3_24 (by assumption) ?_
   case y3_24=>(intro u a;go_simp;try rfl)
   simp only [Act.put];refine ij 4 ?v4_25 rfl (by kernel_rfl) (fun _ _ _ h=>h) (by rfl) ?y4_25 (by assumption) ?_
   case y4_25=>(intro u a;go_simp;try rfl)
   simp only [Act.put];refine ij 5 ?v5_26 rfl (by kernel_rfl) (fun _ _ _ h=>h) (by rfl) ?y5_26 (by assumption) ?_
   case y5_26=>(intro u a;go_simp;try rfl)
   simp only [Act.put];refine ij 6 ?v6_27 rfl (by kernel_rfl) (fun _ _ _ h=>h) (by rfl) ?y6_27 (by assumption) ?_
   case y6_27=>(intro u a;go_simp;try rfl)
   simp only [Act.put];refine ij 7 ?v7_28 rfl (by kernel_rfl) (fun _ _ _ h=>h) (by rfl) ?y7_28 (by assumption) ?_
   case y7_28=>(intro u a;go_simp;try rfl)
   simp only [Act.put];refine ij 8 ?v8_29 rfl (by kernel_rfl) (fun _ _ _ h=>h) (by rfl) ?y8_29 (by assumption) ?_
   case y8_29=>(intro u a;go_simp;try rfl)
   simp only [Act.put];refine ij 9 ?v9_30 rfl (by kernel_rfl) (fun _ _ _ h=>h) (by rfl) ?y9_30 (by assumption) ?_
   case y9_30=>(intro u a;go_simp;try rfl)
   simp only [Act.put];have m:Hid (WrS W c.drew b (.slice d L.length f) L):=k.out.grown (iz (iu _ _));have D:Hid (WrT w c.drew b (.slice x1 l.length x3) (.slice d L.length f)):=K.out.grown (iz (iu _ _));have M:W.heap.size<=c.heap.size:=k.out.base.size;refine iw (i:=10) rfl (by kernel_rfl) (by kernel_rfl) (by rfl) ?_;intro Q B;have s:=il B;clear B;go_simp;refine s.out _ _ (iq (ir (iu _ _)) _ _ m.out.cell) ?_;clear s;try simp only [Act.put,List.setIfInBounds_toArray]
   refine iw (i:=11) rfl (by kernel_rfl) (by kernel_rfl) (by rfl) ?_;intro P t;have r:=il t;clear t;refine mS _ (.tmp 17) (.tmp 23) (by rfl) W.heap.size (.slice d L.length f) L.length (u8s L) (by rfl) m.out.row.alloc c.heap.size (.int .u8 (y:Int)) (by rfl) (heap_alloc_new c.drew _) rfl (by omega) (by simp;omega) (c.heap.size+1) (by simp) ?_;intro g6 v w6 A z q F;obtain⟨o,I,V,p⟩:=m.out.push A z q;have E:Hid (WrS W (w6.setCell ⟨b,0,none⟩ (.slice (some ⟨g6,0,none⟩) (L.length+1) v)) b (.slice (some ⟨g6,0,none⟩) (L.length+1) v) (l++(leB 4 C).take 3)):=by
    unfold Hid;rw [HX.out,<-List.append_assoc,J.out];exact o
   have G:=il (D.out.trans p);clear o p A z q F;refine r.out _ _ I ?_;clear r;try simp only [Act.put,List.setIfInBounds_toArray]
   refine ij 12 ?v12_2b rfl (by kernel_rfl) (fun _ _ _ h=>h) (by rfl) ?y12_2b (by assumption) ?_
   case y12_2b=>(intro u a;go_simp;try rfl)
   simp only [Act.put];refine ij 13 ?v13_2b rfl (by kernel_rfl) (fun _ _ _ h=>h) (by rfl) ?y13_2b (by assumption) ?_
   case y13_2b=>(intro u a;go_simp;try rfl)
   simp only [Act.put];refine iI rfl (by kernel_rfl) (by kernel_rfl) (by rfl) ?_;go_simp;go_wp2
   go_roundw
   case rel=>exact⟨3,_,by omega,by first | rfl | go_num,E,G⟩
   case measure=>simp [intOf]
  ·have HX:Hid ((leB 4 C).take 4=(leB 4 C).take 3++[C / 16777216 % 256]):=by unfold Hid;simp [leB,Nat.div_div_eq_div_mul]
   have R:IntKind.i64.wrap 24=24:=by decide
   have T:IntKind.u8.wrap ((C:Int) / 16777216)=((C / 16777216 % 256:Nat):Int):=by rw [IntKind.wrap_u8'];omega
   have U:(l++(leB 4 C).take 3).length<=1000000:=by simp [o8];omega
   generalize C / 16777216 % 256=y at*;generalize n:l++(leB 4 C).take 3=L at*;have J:=il n;clear n;obtain⟨d,f,rfl⟩:=k.out.row.form;have H:c.cell? ⟨b,0,none⟩=some (.slice d L.length f):=k.out.cell;go_wp2_with fail
   refine iA (fun u=>u.cell? ⟨b,0,none⟩=some (.slice d L.length f)) 14 (by kernel_rfl) (by kernel_rfl) ?_ ?_
   ·simp [go_sem,H]
   intro S;refine ij 0 ?v0_31 rfl (by kernel_rfl) (fun _ _ _ h=>h) (by rfl) ?y0_31 (by assumption) ?_
   case y0_31=>(intro u a;go_simp;try rfl)
   simp only [Act.put,List.setIfInBounds_toArray];refine ij 1 ?v1_32 rfl (by kernel_rfl) (fun _ _ _ h=>h) (by rfl) ?y1_32 (by assumption) ?_
   case y1_32=>(intro u a;go_simp;try rfl)
   simp only [Act.put];refine ij 2 ?v2_33 rfl (by kernel_rfl) (fun _ _ _ h=>h) (by rfl) ?y2_33 (by assumption) ?_
   case y2_33=>(intro u a;go_simp;try rfl)
   simp only [Act.put];refine ij 3 ?v3_34 rfl (by kernel_rfl) (fun _ _ _ h=>h) (by rfl) ?y3_34 (by assumption) ?_
   case y3_34=>(intro u a;go_simp;try rfl)
   simp only [Act.put];refine ij 4 ?v4_35 rfl (by kernel_rfl) (fun _ _ _ h=>h) (by rfl) ?y4_35 (by assumption) ?_
   case y4_35=>(intro u a;go_simp;try rfl)
   simp only [Act.put];refine ij 5 ?v5_36 rfl (by kernel_rfl) (fun _ _ _ h=>h) (by rfl) ?y5_36 (by assumption) ?_
   case y5_36=>(intro u a;go_simp;try rfl)
   simp only [Act.put];refine ij 6 ?v6_37 rfl (by kernel_rfl) (fun _ _ _ h=>h) (by rfl) ?y6_37 (by assumption) ?_
   case y6_37=>(intro u a;go_simp;try rfl)
   simp only [Act.put];refine ij 7 ?v7_38 rfl (by kernel_rfl) (fun _ _ _ h=>h) (by rfl) ?y7_38 (by assumption) ?_
   case y7_38=>(intro u a;go_simp;try rfl)
   simp only [Act.put];refine ij 8 ?v8_39 rfl (by kernel_rfl) (fun _ _ _ h=>h) (by rfl) ?y8_39 (by assumption) ?_
   case y8_39=>(intro u a;go_simp;try rfl)
   simp only [Act.put];refine ij 9 ?v9_40 rfl (by kernel_rfl) (fun _ _ _ h=>h) (by rfl) ?y9_40 (by assumption) ?_
   case y9_40=>(intro u a;go_simp;try rfl)
   simp only [Act.put];have m:Hid (WrS W c.drew b (.slice d L.length f) L):=k.out.grown (iz (iu _ _));have D:Hid (WrT w c.drew b (.slice x1 l.length x3) (.slice d L.length f)):=K.out.grown (iz (iu _ _));have M:W.heap.size<=c.heap.size:=k.out.base.size;refine iw (i:=10) rfl (by kernel_rfl) (by kernel_rfl) (by rfl) ?_;intro Q B;have s:=il B;clear B;go_simp;refine s.out _ _ (iq (ir (iu _ _)) _ _ m.out.cell) ?_;clear s;try simp only [Act.put,List.setIfInBounds_toArray]
   refine iw (i:=11) rfl (by kernel_rfl) (by kernel_rfl) (by rfl) ?_;intro P t;have r:=il t;clear t;refine mS _ (.tmp 17) (.tmp 23) (by rfl) W.heap.size (.slice d L.length f) L.length (u8s L) (by rfl) m.out.row.alloc c.heap.size (.int .u8 (y:Int)) (by rfl) (heap_alloc_new c.drew _) rfl (by omega) (by simp;omega) (c.heap.size+1) (by simp) ?_;intro g6 v w6 A z q F;obtain⟨o,I,V,p⟩:=m.out.push A z q;have E:Hid (WrS W (w6.setCell ⟨b,0,none⟩ (.slice (some ⟨g6,0,none⟩) (L.length+1) v)) b (.slice (some ⟨g6,0,none⟩) (L.length+1) v) (l++(leB 4 C).take 4)):=by
    unfold Hid;rw [HX.out,<-List.append_assoc,J.out];exact o
   have G:=il (D.out.trans p);clear o p A z q F;refine r.out _ _ I ?_;clear r;try simp only [Act.put,List.setIfInBounds_toArray]
   refine ij 12 ?v12_3b rfl (by kernel_rfl) (fun _ _ _ h=>h) (by rfl) ?y12_3b (by assumption) ?_
   case y12_3b=>(intro u a;go_simp;try rfl)
   simp only [Act.put];refine ij 13 ?v13_3b rfl (by kernel_rfl) (fun _ _ _ h=>h) (by rfl) ?y13_3b (by assumption) ?_
   case y13_3b=>(intro u a;go_simp;try rfl)
   simp only [Act.put];refine iI rfl (by kernel_rfl) (by kernel_rfl) (by rfl) ?_;go_simp;go_wp2
   go_roundw
   case rel=>exact⟨4,_,by omega,by first | rfl | go_num,E,G⟩
   case measure=>simp [intOf]
  ·go_wp2_with fail
   go_end0
   refine⟨⟨_,rfl⟩,ae,?_,K.out⟩;have:=k.out;rwa [List.take_of_length_le (by rw [o8];exact Nat.le_refl _)]at this
theorem oV{p:List (List Ins)}(h:iV p=true):p.length<=4/\∀ c∈p,c.length<=16:=by
 simp only [iV,Bool.and_eq_true,decide_eq_true_eq,List.all_eq_true]at h;refine⟨h.2.1,fun c hc=>?_⟩;have:=h.2.2 c hc;simp only [kU,Bool.and_eq_true,decide_eq_true_eq]at this;exact this.1
theorem nV{α:Type}(f:α->List Nat)(B:Nat)(q:List α)(h:∀ x∈q,(f x).length<=B):(q.flatMap f).length<=B*q.length:=by
 induction q with
 | nil=>simp
 | cons x q ih=>
  have h1:=h x (by simp);have h2:=ih (fun y hy=>h y (by simp [hy]));rw [List.flatMap_cons,List.length_append,List.length_cons,Nat.mul_succ];omega
theorem rp{α:Type}(f:α->List Nat)(q:List α)(k:Nat)(h:k<q.length):(q.take (k+1)).flatMap f=(q.take k).flatMap f++f q[k]:=by
 rw [List.take_succ_eq_append_getElem h,List.flatMap_append];simp
theorem jM{n:Int}(h:n<=9223372036854775807):(jx n).length<=10:=mK (by omega)
theorem wQ{i:Ins}(h:kM i):(mu i).length<=40:=by
 obtain⟨⟨a1,c⟩,⟨b1,a⟩,⟨c1,b⟩,⟨d1,d2⟩⟩:=h;unfold mu;have h1:=jM c;have h2:=jM a;have h3:=jM b;have h4:(jZ (zig i.n)).length<=10:=mK (by unfold zig;split<;>omega);simp only [List.length_append];omega
theorem uA{c:List Ins}(h:c.length<=16)(a:∀ i∈c,kM i):(jU c).length<=650:=by
 unfold jU;have h1:=jM (n:=c.length) (by omega);have h2:=nV mu 40 c (fun i h=>wQ (a i h));simp only [List.length_append];omega
theorem zS{p:List (List Ins)}(a:iV p=true)(d:∀ c∈p,∀ i∈c,kM i):(lY p).length<=2610:=by
 obtain⟨h4,b⟩:=oV a;unfold lY;have h1:=jM (n:=p.length) (by omega);have h2:=nV jU 650 p (fun c h=>uA (b c h) (d c h));simp only [List.length_append];omega
theorem Av(W:World)(b:Nat)(p:List (List Ins))(pv:Value)(w:World)(v:Value)(l:List Nat)(h:WrS W w b v l)(hl:l.length<=900)(hP:ProgAt W pv p)(P:iV p=true)(hi:∀ c∈p,∀ i∈c,kM i):
  Calls Tryz.prog 92 #[pt b,pv] w (ul W w b v (l++lY p)):=by
 obtain⟨J,G,rfl,ak⟩:=hP;have HH:=il h;have HP:=il ak;have a0:pt b= .pointer (some ⟨b,0,none⟩):=rfl;rw [a0]at*;clear h ak;go_enter Tryz.func92,Tryz.ntmps92
 go_wp2_with fail
 have q:=WrL.start HH.out 37 #[.slice J p.length G];have z:WrT w (w.alloc (.cells #[.slice J p.length G] 37)) b v v:=(WrT.refl _ _ _).grown (ir (iu _ _));generalize w.alloc (.cells #[.slice J p.length G] 37)=w1 at q z ⊢;have hp4:p.length<=4:=(oV P).1;refine(mm W b p.length (by omega) (by omega) w1 v l q.wr (by omega)).mono ?_;rintro e w2 ⟨⟨v2,rfl⟩,aT,D,y⟩;have f:=q.call D y;have u:=z.trans y;have I:w2.cell? ⟨w.heap.size,0,none⟩=some (.slice J p.length G):=by simpa using f.cell 0
 have j:=il f.wr;have m:=il u;have HV:=il (oV P).2;have HI:=il hi;clear f u q z D y P hi;go_wp2_with fail
 clear I;go_loopw [16] (fun i w'=>∃ (t:Nat) (bv':Value),t<=p.length/\i= .int .i64 t/\Hid (WrS W w' b bv' (l++jx p.length++(p.take t).flatMap jU))/\Hid (WrT w w' b v bv')) (fun i _=>p.length - (intOf i).toNat)
 case atStart=>exact⟨0,aT,Nat.zero_le _,rfl,il (by simpa using j.out),m⟩
 case round=>
  clear j m;obtain⟨t,R,ht,rfl,d,r⟩:=hrel;obtain⟨K,au⟩:∃ K,K=wr:=⟨_,rfl⟩;rw [<-au]at d r ⊢;clear au;by_cases H:t<p.length
  ·obtain⟨g,o,rfl,rv,c0,aP⟩:=HP.out t H;obtain⟨ca,cc,rfl,hC⟩:=aP;have T:=iq d.out.base _ _ c0;have HC:=il hC;have q0:(0:Int)<=(t:Int):=by omega
   have q1:(t:Int)<p.length:=by omega
   have hc16:p[t].length<=16:=HV.out _ (List.getElem_mem H);have aj:=il (HI.out p[t] (List.getElem_mem H));have a7:=il (rp jU p t H);have O:Hid ((l++jx p.length++(p.take t).flatMap jU).length<=4000):=by
    unfold Hid;have h1:=jM (n:=p.length) (by omega);have M:=nV jU 650 (p.take t) (fun c h=>uA (HV.out c (List.mem_of_mem_take h)) (HI.out c (List.mem_of_mem_take h)));simp only [List.length_append,List.length_take]at M ⊢;have h3:650*min t p.length<=650*4:=Nat.mul_le_mul_left _ (by omega);omega
   generalize av:l++jx p.length++(p.take t).flatMap jU=l1 at d O ⊢;have aK:=il av;clear av;generalize p[t]=c at*;clear c0 hC;go_wp2_with fail
   refine(mm W b c.length (by omega) (by omega) K R l1 d.out (by have:=O.out;omega)).mono ?_;rintro e w6 ⟨⟨v6,rfl⟩,bc,Y,X⟩;have H6:=il Y;have T6:=il (r.out.trans X);clear Y X d r T;go_wp2_with fail
   go_loopw [26] (fun i w'=>∃ (k:Nat) (bv':Value),k<=c.length/\i= .int .i64 k/\Hid (WrS W w' b bv' (l1++jx c.length++(c.take k).flatMap mu))/\Hid (WrT w w' b v bv')) (fun i _=>c.length - (intOf i).toNat)
   case atStart=>exact⟨0,bc,Nat.zero_le _,rfl,il (by simpa using H6.out),T6⟩
   case round=>
    clear H6 T6;obtain⟨k,L,hk,rfl,d,r⟩:=hrel;obtain⟨s,ax⟩:∃ s,s=wr:=⟨_,rfl⟩;rw [<-ax]at d r ⊢;clear ax;by_cases S:k<c.length
    ·obtain⟨g',o',rfl,c0,c1,I,c3⟩:=HC.out k S;have C:=iq d.out.base;have T:=C _ _ c0;have d1:=C _ _ c1;have d2:=C _ _ I;have d3:=C _ _ c3;have k0:(0:Int)<=(k:Int):=by omega
     have k1:(k:Int)<c.length:=by omega
     obtain⟨⟨a1,a2⟩,⟨b1,b2⟩,⟨e1,e2⟩,⟨n1,n2⟩⟩:=aj.out c[k] (List.getElem_mem S);have a4:=il (rp mu c k S);have B:Hid ((l1++jx c.length++(c.take k).flatMap mu).length<=5000):=by
      unfold Hid;have h1:=jM (n:=c.length) (by omega);have M:=nV mu 40 (c.take k) (fun i h=>wQ (aj.out i (List.mem_of_mem_take h)));simp only [List.length_append,List.length_take]at M ⊢;have h3:40*min k c.length<=40*16:=Nat.mul_le_mul_left _ (by omega);have:=O.out;omega
     generalize ap:l1++jx c.length++(c.take k).flatMap mu=l2 at d B ⊢;have a3:=il ap;clear ap;clear c0 c1 I c3 C;have hz:(c[k]:Ins)=⟨c[k].op,c[k].a,c[k].b,c[k].n⟩:=rfl;have HZ:Hid (mu c[k]=jx c[k].op++(jx c[k].a++(jx c[k].b++jZ (zig c[k].n)))):=rfl;clear hz;generalize c[k].op=x0 at*;generalize c[k].a=x1 at*;generalize c[k].b=x2 at*;generalize c[k].n=x3 at*;have y0:=jM a2;have y1:=jM b2;have y2:=jM e2;go_wp2_with fail
     have q:=WrL.start d.out 65 #[.int .i64 x0,.int .i64 x1,.int .i64 x2,.int .i64 x3];have z:WrT w (s.alloc (.cells #[.int .i64 x0,.int .i64 x1,.int .i64 x2,.int .i64 x3] 65)) b v L:=r.out.grown (ir (iu _ _));clear T d1 d2 d3;generalize s.alloc (.cells #[.int .i64 x0,.int .i64 x1,.int .i64 x2,.int .i64 x3] 65)=u0 at q z ⊢;refine(mm W b x0 a1 a2 u0 L l2 q.wr (by have:=B.out;omega)).mono ?_;rintro e u1 ⟨⟨v1,rfl⟩,aF,aa,U⟩;have x:=q.call aa U;have F:=z.trans U;have m1:u1.cell? ⟨s.heap.size,1,none⟩=some (.int .i64 x1):=by simpa using x.cell 1
     have j:=il x;have m:=il F;clear x F q z aa U d r;go_wp2_with fail
     have x:=j.out;have F:=m.out;clear j m m1;refine(mm W b x1 b1 b2 u1 aF (l2++jx x0) x.wr (by have:=B.out;simp only [List.length_append];omega)).mono ?_;rintro e u2 ⟨⟨v2,rfl⟩,a8,D,y⟩;have f:=x.call D y;have u:=F.trans y;have m2:u2.cell? ⟨s.heap.size,2,none⟩=some (.int .i64 x2):=by simpa using f.cell 2
     have j:=il f;have m:=il u;clear f u x F D y;go_wp2_with fail
     have f:=j.out;have u:=m.out;clear j m m2;refine(mm W b x2 e1 e2 u2 a8 (l2++jx x0++jx x1) f.wr (by have:=B.out;simp only [List.length_append];omega)).mono ?_;rintro e u3 ⟨⟨v3,rfl⟩,aO,aA,N⟩;have A:=f.call aA N;have E:=u.trans N;have m3:u3.cell? ⟨s.heap.size,3,none⟩=some (.int .i64 x3):=by simpa using A.cell 3
     have j:=il A;have m:=il E;clear A E f u aA N;go_wp2_with fail
     have A:=j.out;have E:=m.out;clear j m m3;refine(C3 W b x3 n1 n2 u3 aO (l2++jx x0++jx x1++jx x2) A.wr (by have:=B.out;simp only [List.length_append];omega)).mono ?_;rintro e u4 ⟨⟨v4,rfl⟩,az,Z,am⟩;have T4:=il (E.trans am);have S4:Hid (WrS W u4 b az (l1++jx c.length++(c.take (k+1)).flatMap mu)):=by
      unfold Hid;rw [a4.out,HZ.out,<-List.append_assoc (l1++jx c.length),a3.out];simpa [List.append_assoc]using Z
     clear A E Z am;go_wp2_with fail
     go_roundw
     case rel=>exact⟨k+1,az,by omega,by first | rfl | go_num,S4,T4⟩
     case measure=>simp [intOf];omega
    ·have k1:¬(k:Int)<c.length:=by omega
     have V:k=c.length:=by omega
     have Q:Hid (WrS W s b L (l++jx p.length++(p.take (t+1)).flatMap jU)):=by
      unfold Hid;rw [a7.out,<-List.append_assoc (l++jx p.length),aK.out];have:=d.out;rw [V,List.take_length]at this;simpa [jU,List.append_assoc]using this
     clear V;go_wp2_with fail
     go_roundw
     case rel=>exact⟨t+1,L,by omega,by first | rfl | go_num,Q,r⟩
     case measure=>simp [intOf];omega
  ·have q1:¬(t:Int)<p.length:=by omega
   have al:t=p.length:=by omega
   have Q:Hid (WrS W K b R (l++lY p)):=by
    unfold Hid lY;have:=d.out;rw [al,List.take_length]at this;simpa [List.append_assoc]using this
   clear al;go_wp2_with fail
   go_end0
   exact⟨⟨_,rfl⟩,R,Q.out,r.out⟩
theorem wx{x:Int × Int}(h:0<=x.1/\x.1<=63/\1<=x.2/\x.2<=500):(lQ x).length<=20:=by
 unfold lQ;have h1:=jM (n:=x.1) (by omega);have h2:=jM (n:=x.2) (by omega);simp only [List.length_append];omega
theorem rn{s:List Int}(h:jd s=true):s.length<=500:=by
 simp only [jd,Bool.and_eq_true,decide_eq_true_eq]at h;exact h.1
theorem B9{s:List Int}(h:jd s=true):(mz s).length<=10010:=by
 unfold mz;have h0:=rn h;have h3:=pd s;have h1:=jM (n:=(grp s).length) (by omega);have h2:=nV lQ 20 (grp s) (fun x hx=>wx (rm h x hx));have h4:20*(grp s).length<=20*500:=Nat.mul_le_mul_left _ (by omega);simp only [List.length_append];omega
theorem yn(W:World)(b:Nat)(s:List Int)(sv:Value)(w:World)(c:Value)(l:List Nat)(h:WrS W w b c l)(hl:l.length<=5000)(H:IntsAt W.heap.size W sv s)(u:jd s=true):
  Calls Tryz.prog 93 #[pt b,sv] w (ul W w b c (l++mz s)):=by
 have z:=il h;have N:=il (F5 s sv w ((H.pres (iq h.base)).mono h.base.size) (rn u));have U:=il (rm u);have hq5:(grp s).length<=500:=by have:=pd s;have:=rn u;omega
 obtain⟨sa,sc,rfl⟩:=H.form;have T:pt b= .pointer (some ⟨b,0,none⟩):=rfl;rw [T]at*;unfold mz;generalize grp s=q at*;clear h H u T;go_enter Tryz.func93,Tryz.ntmps93
 go_wp2_with fail
 refine N.out.mono ?_;rintro e d ⟨r1,r2,r3,rfl,x,v⟩;have am:=iC x;subst am;have B:=il x;have af:=il (z.out.grown v);have au:=il ((WrT.refl w b c).grown v);have HZ:Hid (w.heap.size<=d.heap.size):=v.size;have ao:Hid (∀ k,r1=some k->k.block≠b/\c.ownBlock≠some k.block):=by
  intro k Q;have h1:=iB x k.block (by rw [Q];rfl);have J:=z.out.lt;refine⟨by omega,fun e=>?_⟩;have:=z.out.row.lt _ e;omega
 clear x v N;go_wp2_with fail
 refine(mm W b q.length (by omega) (by omega) d c l af.out (by omega)).mono ?_;rintro e w2 ⟨⟨v2,rfl⟩,ag,o,p⟩;have K:=il o;have R:=il p;clear o p;go_wp2_with fail
 go_loopw [15] (fun i w'=>∃ (k:Nat) (bv':Value),k<=q.length/\i= .int .i64 k/\Hid (WrS W w' b bv' (l++jx q.length++(q.take k).flatMap lQ))/\Hid (WrT d w' b c bv')) (fun i _=>q.length - (intOf i).toNat)
 case atStart=>exact⟨0,ag,Nat.zero_le _,rfl,il (by simpa using K.out),R⟩
 case round=>
  clear K R;obtain⟨k,y,Q,rfl,j,m⟩:=hrel;obtain⟨a,V⟩:∃ a,a=wr:=⟨_,rfl⟩;rw [<-V]at j m ⊢;clear V;by_cases C:k<q.length
  ·obtain⟨g,cap,X,hgb,ar⟩:=B.out.form (by omega);simp only [Value.slice.injEq,true_and]at X;obtain⟨rfl,rfl⟩:=X;obtain⟨P,f1⟩:=zy q k C;have F:=ao.out ⟨g,0,none⟩ rfl;have D:a.heap[g]?=d.heap[g]?:=m.out.keep g ar F.1 F.2;have aw:=Bh q;have d0:a.cell? ⟨g,k*2,none⟩=some (.int .i64 q[k].1):=by
    rw [World.cell?_of_block (w:=d) D,B.out.cellAt _ (by omega)];exact P
   have d1:a.cell? ⟨g,k*2+1,none⟩=some (.int .i64 q[k].2):=by
    rw [World.cell?_of_block (w:=d) D,B.out.cellAt _ (by omega)];exact f1
   have k0:(0:Int)<=(k:Int):=by omega
   have k1:(k:Int)<q.length:=by omega
   obtain⟨a1,a2,b1,b2⟩:=U.out q[k] (List.getElem_mem C);have aq:=il (rp lQ q k C);have A:Hid ((l++jx q.length++(q.take k).flatMap lQ).length<=20000):=by
    unfold Hid;have h1:=jM (n:=q.length) (by omega);have J:=nV lQ 20 (q.take k) (fun i h=>wx (U.out i (List.mem_of_mem_take h)));simp only [List.length_append,List.length_take]at J ⊢;have h3:20*min k q.length<=20*500:=Nat.mul_le_mul_left _ (by omega);omega
   generalize S:l++jx q.length++(q.take k).flatMap lQ=l2 at j A ⊢;have an:=il S;have aa:Hid (lQ q[k]=jx q[k].1++jx q[k].2):=rfl;clear S P f1 F D aw;generalize q[k].1=x0 at*;generalize q[k].2=x1 at*;have y0:=jM (n:=x0) (by omega);go_wp2_with fail
   have t:=WrL.start j.out 187 #[.int .i64 x0,.int .i64 x1];have G:WrT d (a.alloc (.cells #[.int .i64 x0,.int .i64 x1] 187)) b c y:=m.out.grown (ir (iu _ _));clear d0 d1;generalize a.alloc (.cells #[.int .i64 x0,.int .i64 x1] 187)=u0 at t G ⊢;refine(mm W b x0 a1 (by omega) u0 y l2 t.wr (by have:=A.out;omega)).mono ?_;rintro e M ⟨⟨v1,rfl⟩,ab,L,E⟩;have f:=t.call L E;have r:=G.trans E;have m1:M.cell? ⟨a.heap.size,1,none⟩=some (.int .i64 x1):=by simpa using f.cell 1
   have O:=il f;have Z:=il r;clear f r t G L E j m;go_wp2_with fail
   have f:=O.out;have r:=Z.out;clear O Z m1;refine(mm W b x1 (by omega) (by omega) M ab (l2++jx x0) f.wr (by have:=A.out;simp only [List.length_append];omega)).mono ?_;rintro e u2 ⟨⟨v2,rfl⟩,Y,o,p⟩;have T4:=il (r.trans p);have S4:Hid (WrS W u2 b Y (l++jx q.length++(q.take (k+1)).flatMap lQ)):=by
    unfold Hid;rw [aq.out,aa.out,<-List.append_assoc (l++jx q.length),an.out];simpa [List.append_assoc]using o
   clear f r o p;go_wp2_with fail
   go_roundw
   case rel=>exact⟨k+1,Y,by omega,by first | rfl | go_num,S4,T4⟩
   case measure=>simp [intOf];omega
  ·have k1:¬(k:Int)<q.length:=by omega
   have I:k=q.length:=by omega
   have S5:Hid (WrS W a b y (l++(jx q.length++q.flatMap lQ))):=by
    unfold Hid;have:=j.out;rw [I,List.take_length]at this;simpa [List.append_assoc]using this
   clear I;go_wp2_with fail
   go_end0
   exact⟨⟨_,rfl⟩,y,S5.out,au.out.trans m.out⟩
end
end Go.Proofs.YtklenjmfalljgabGreatDoor
