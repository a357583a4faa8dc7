/- The texts Fhi Frq Svd Fhj Apn Cut Cct Sho Fld Shp Sht. -/
import Derived.Test.YtklenjmfalljgabGreatDoorM01
import Derived.Test.YtklenjmfalljgabGreatDoorM02
import Derived.Test.YtklenjmfalljgabGreatDoorM04
import Derived.Test.YtklenjmfalljgabGreatDoorM05
import Derived.BigQuiet
import Derived.Deep.QuietTactic
import Derived.Deep.AppendLies
import Derived.Maps.AppendAt
import Derived.Deep.DeepCutAuto
import Derived.Lib.AppendZeros
namespace Go.Proofs.YtklenjmfalljgabGreatDoor
set_option maxRecDepth 100000
set_option maxHeartbeats 8000000
section
open Go.RowKit
attribute [local go_sem] Go.World.cell?_alloc_some
theorem uU(w:World):Like w w:=⟨rfl,rfl,rfl,rfl⟩
theorem qZ{w' w:World}(h:Like w' w)(n:Nat):Like (w'.drewN n) w:=by
 obtain⟨a,b,c,d⟩:=h;exact⟨a,b,c,d⟩
theorem xT(l m:List Int)(v u:Value)(w:World)(E:IntsAt w.heap.size w v l)(F:IntsAt w.heap.size w u m)(hln:l.length<=9223372036854775806):
  Calls Tryz.prog 60 #[v,u] w fun e w'=>e= .returned (.bool (l==m))/\Like w' w:=by
 obtain⟨ao,cap,rfl,hcap,hc⟩:=E;obtain⟨bo,dap,rfl,hdap,p⟩:=F;by_cases q:l.length=m.length
 ·have C:=ij hc;have D:=ij p;clear hc p;have G:(l.length:Int)=m.length:=by omega
  have H:((l.length:Int) !=(m.length:Int))=false:=by simp;omega
  have s:=ij q;go_enter Tryz.func60,Tryz.ntmps60
  clear q G;go_wp2_with fail
  go_loopw [13] (fun i w'=>∃ k:Nat,k<=l.length/\i= .int .i64 k/\Hid (Like w' w)/\Hid (l.take k=m.take k)) (fun i _=>l.length - (intOf i).toNat)
  case atStart=>exact⟨0,Nat.zero_le _,rfl,ij (uU _),by simp [Hid]⟩
  case round=>
   obtain⟨k,hk,rfl,f,r⟩:=hrel;obtain⟨d,J⟩:∃ d,d=wr:=⟨_,rfl⟩;subst J;by_cases z:k<l.length
   ·have A:k<m.length:=by have:=s.out;omega
    obtain⟨g,o,rfl,_,c0⟩:=C.out k z;obtain⟨g2,K,rfl,_,c1⟩:=D.out k A;have n:∀ a,d.cell? a=w.cell? a:=fun a=>by simp [World.cell?,f.out.1]
    have d0:d.cell? ⟨g,o+k,none⟩=some (.int .i64 l[k]):=by rw [n];exact c0
    have d1:d.cell? ⟨g2,K+k,none⟩=some (.int .i64 m[k]):=by rw [n];exact c1
    have hk0:(0:Int)<=(k:Int):=by omega
    have hk1:(k:Int)<l.length:=by omega
    have hk2:(k:Int)<m.length:=by omega
    have h:Hid (l.take (k+1)=l.take k++[l[k]]):=List.take_succ_eq_append_getElem z;have j:Hid (m.take (k+1)=m.take k++[m[k]]):=List.take_succ_eq_append_getElem A;clear n c0 c1;by_cases b:l[k]=m[k]
    ·have I:(l[k] !=m[k])=false:=by simpa using b
     have B:Hid (l.take (k+1)=m.take (k+1)):=by unfold Hid;rw [h.out,j.out,r.out,b]
     clear b h j;generalize l[k]=x at*;generalize m[k]=y at*;go_wp2_with fail
     go_quiet (fail)
     go_wp2_with fail
     go_roundw
     case rel=>exact⟨k+1,by omega,by go_num,ij (qZ f.out _),B⟩
     case measure=>simp [intOf];omega
    ·have I:(l[k] !=m[k])=true:=by simpa using b
     have c:Hid ((l==m)=false):=by
      unfold Hid;simp only [beq_eq_false_iff_ne];intro e;apply b;simp [e]
     clear b h j;generalize l[k]=x at*;generalize m[k]=y at*;go_wp2_with fail
     go_quiet (fail)
     go_wp2_with fail
     go_ret;exact⟨by rw [c.out];rfl,qZ f.out _⟩
   ·have c:Hid ((l==m)=true):=by
     unfold Hid;have t:=r.out;rw [List.take_of_length_le (by omega),List.take_of_length_le (by have:=s.out;omega)]at t;simpa using t
    have q2:(l.length:Int)<=(k:Int):=by omega
    go_wp2_with fail
    go_ret;exact⟨by rw [c.out];rfl,f.out⟩
 ·have c:Hid ((l==m)=false):=by
   unfold Hid;simp only [beq_eq_false_iff_ne];intro e;exact q (by rw [e])
  have H:((l.length:Int) !=(m.length:Int))=true:=by simp;omega
  clear hc p;go_enter Tryz.func60,Tryz.ntmps60
  go_wp2_with fail
  go_ret;exact⟨by rw [c.out];rfl,uU _⟩
end
section
def likeV(a b:Out):Bool:=if a.kind=2 then b.kind==2 else (a.kind==b.kind && a.thread==b.thread && a.at_==b.at_)
def leftOut(l:List Int)(i:Nat):List Int:=l.take i++l.drop (i+1)
def cameTo(o:Out):Nat:=if o.kind=2 then o.steps.length+1 else o.steps.length
def shr(p:List (List Ins))(V:Out):Nat->List Int->Nat->Nat->List Int × Nat
 | 0,l,_,u=>(l,u)
 | n+1,l,i,u=>if i<l.length then (if likeV (runS p (leftOut l i)) V=true then shr p V n (leftOut l i) 0 (u+1) else shr p V n l (i+1) (u+1)) else (l,u)
def shortS(p:List (List Ins))(s:List Int)(fuel:Nat):List Int × Nat:=shr p (runS p s) fuel (s.take (cameTo (runS p s))) 0 0
theorem lD{l:List Int}{i:Nat}(h:i<l.length):(leftOut l i).length+1=l.length:=by
 unfold leftOut;simp;omega
section
variable {p : List (List Ins)} {V : Out}
theorem rI:∀ (n:Nat) (l:List Int) (i u:Nat),(shr p V n l i u).1.length<=l.length
 | 0,l,i,u=>Nat.le_refl _
 | n+1,l,i,u=>by
  unfold shr;split
  ·rename_i hi
   have:=lD hi;split
   ·have:=rI n (leftOut l i) 0 (u+1);omega
   ·exact rI n l (i+1) (u+1)
  ·exact Nat.le_refl _
end
theorem vb(p:List (List Ins))(s:List Int):runS p (s.take (cameTo (runS p s)))=runS p s/\cameTo (runS p s)<=s.length:=by
 have hc:=kr p s 0 St.zero [];change ∃ xs a,RunE p St.zero xs a/\(runS p s).steps=[]++xs.map Ev.pr/\(runS p s).st=a/\((good xs/\xs.map Ev.tI=s/\(runS p s).kind=endingS p a/\(runS p s).thread=0/\(runS p s).at_=0)\/(good xs/\(∃ u r,s=xs.map Ev.tI++u::r/\okAt p a u=false)/\(runS p s).kind=2/\(runS p s).thread=0/\(runS p s).at_=0+xs.length)\/(∃ ys z r,xs=ys++[z]/\good ys/\z.bad=true/\s=xs.map Ev.tI++r/\(runS p s).kind=1/\(runS p s).thread=z.tI/\(runS p s).at_=z.k))at hc
 obtain⟨xs,a,h,c,i,hc⟩:=hc;rw [List.nil_append]at c;have e:(runS p s).steps.length=xs.length:=by rw [c];simp
 have eq_of:∀ o:Out,o.steps=(runS p s).steps->o.kind=(runS p s).kind->o.thread=(runS p s).thread->o.at_=(runS p s).at_->o.st=(runS p s).st->o=runS p s:=by
  intro o j l m n t;cases o
  generalize runS p s=q at*;cases q
  simp at*;exact⟨j,l,m,n,t⟩
 rcases hc with ⟨g1,g2,g3,g4,g5⟩ | ⟨g1,⟨u,r,g2,g2'⟩,g3,g4,g5⟩ | ⟨us,z,r,g1,g2,g3,g4,g5,g6,g7⟩
 ·have b:cameTo (runS p s)=s.length:=by
   unfold cameTo;rw [if_neg (by have:=l9 p a;omega),e,<-g2];simp
  rw [b,List.take_length];exact⟨rfl,Nat.le_refl _⟩
 ·have b:cameTo (runS p s)=xs.length+1:=by unfold cameTo;rw [if_pos g3,e]
  have f:s.take (xs.length+1)=xs.map Ev.tI++[u]:=by
   rw [g2,List.take_append,List.take_of_length_le (by simp)];simp
  rw [b,f];refine⟨?_,by rw [g2];simp⟩;have d:runS p (xs.map Ev.tI++[u])=⟨xs.map Ev.pr,2,0,0+xs.length,a⟩:=by
   unfold runS;rw [kF p xs [u] 0 St.zero a [] g1 h,jh p u [] _ _ _ g2'];simp
  rw [d];exact eq_of _ c.symm g3.symm g4.symm g5.symm i.symm
 ·have b:cameTo (runS p s)=xs.length:=by unfold cameTo;rw [if_neg (by omega),e]
  have f:s.take xs.length=xs.map Ev.tI:=by
   rw [g4,List.take_append,List.take_of_length_le (by simp)];simp
  rw [b,f];refine⟨?_,by rw [g4];simp⟩;subst g1;have d:runS p ((us++[z]).map Ev.tI)=⟨(us++[z]).map Ev.pr,1,z.tI,z.k,a⟩:=by
   unfold runS;rw [tQ g2 g3 h];simp
  rw [d];exact eq_of _ c.symm g5.symm g6.symm g7.symm i.symm
end
section
open Go.RowKit
attribute [local go_sem] Go.World.cell?_alloc_some
def verdV(o:Out):Value:= .agg #[.int .i64 o.kind,.int .i64 o.thread,.int .i64 o.at_]
theorem md(a b:Out)(w:World):Calls Tryz.prog 59 #[verdV a,verdV b] w fun e w'=>e= .returned (.bool (likeV a b))/\w.grownBy w' none:=by
 obtain⟨o,d,k,j,p⟩:=a;obtain⟨bs,f,m,l,q⟩:=b;unfold verdV;simp only;have n:Hid (∀ x y,w.grownBy ((w.alloc x).alloc y) none):=fun x y=>iq (iq (ir _ _))
 by_cases c:d=2
 ·by_cases i:f=2
  ·have h:Hid (likeV ⟨o,d,k,j,p⟩ ⟨bs,f,m,l,q⟩=true):=by unfold Hid likeV;simp [c,i]
   subst c i;go_enter Tryz.func59,Tryz.ntmps59
   go_wp2_with fail
   go_ret;exact⟨by rw [h.out];rfl,n.out _ _⟩
  ·have h:Hid (likeV ⟨o,d,k,j,p⟩ ⟨bs,f,m,l,q⟩=false):=by unfold Hid likeV;simp [c,i]
   have hb:(f==2)=false:=by simpa using i
   subst c;clear i;go_enter Tryz.func59,Tryz.ntmps59
   go_wp2_with fail
   go_ret;exact⟨by rw [h.out];rfl,n.out _ _⟩
 ·have h:Hid (likeV ⟨o,d,k,j,p⟩ ⟨bs,f,m,l,q⟩=(d==f && k==m && j==l)):=by unfold Hid likeV;simp [c]
  have ha:(d==2)=false:=by simpa using c
  clear c;go_enter Tryz.func59,Tryz.ntmps59
  go_wp2_with fail
  all_goals (go_ret;refine⟨?_,n.out _ _⟩;rw [h.out];simp [*])
theorem wx{W:World}{e f:Option Addr}{a b:List Int}{c d:Nat}{t:TypeId}{g:Nat}(i:W.heap.size=g):ListsAt (W.alloc (.cells #[.slice e a.length c,.slice f b.length d] t)) (.slice (some ⟨g,0,none⟩) 2 2) [a,b]:=by
 subst i;have h:=heap_alloc_new W (.cells #[.slice e a.length c,.slice f b.length d] t);refine⟨W.heap.size,0,2,rfl,fun k hk=>?_⟩;have j:k=0\/k=1:=by simp at hk;omega
 rcases j with rfl | rfl
 ·exact⟨e,c,by simp only [World.cell?,h];rfl⟩
 ·exact⟨f,d,by simp only [World.cell?,h];rfl⟩
theorem rU{p:List (List Ins)}{a b:List Int}(c:checkRunsN p [a,b]=0):vProg p=true/\a.length<=500/\b.length<=500:=by
 unfold checkRunsN at c;by_cases d:vProg p=true
 ·by_cases e:a.length<=500
  ·by_cases f:b.length<=500
   ·exact⟨d,e,f⟩
   ·simp [d,e,f]at c
  ·simp [d,e]at c
 ·simp [d]at c
def sameS(p:List (List Ins))(a b:List Int):Bool:=likeV (runS p a) (runS p b) && (formS p (runS p a)==formS p (runS p b))
def Samed(p:List (List Ins))(a b:List Int)(w:World)(e:Ending)(w':World):Prop:=
 w.grownBy w' none/\((checkRunsN p [a,b]=0/\e= .returned (.tuple #[.bool (sameS p a b),.int .i64 0]))\/(checkRunsN p [a,b]≠0/\e= .returned (.tuple #[.bool false,.int .i64 (checkRunsN p [a,b])])))
theorem AX(p:List (List Ins))(a b:List Int)(pv av bv:Value)(w:World)(hS:ShpAt w)(C:ProgAt w pv p)(hI:IntsAt w.heap.size w av a)(hJ:IntsAt w.heap.size w bv b):
  Calls Tryz.prog 34 #[pv,av,bv] w (Samed p a b w):=by
 have bq:=ij hS;have HP:=ij C;have HI:=ij hI;have HJ:=ij hJ;obtain⟨d,f,rfl⟩:=C.form;obtain⟨so,sc,rfl⟩:=hI.form;obtain⟨sp,sd,rfl⟩:=hJ.form;clear hS C hI hJ;go_enter Tryz.func34,Tryz.ntmps34
 go_wp2_with fail
 have az:∀ x y,w.grownBy ((w.alloc x).alloc y) none:=fun x y=>iq (iq (ir _ _))
 refine(la p [a,b] _ _ _ (bq.out.pres (ip (az _ _))) (HP.out.pres (ip (az _ _))) (wx (by simp)) (by simp)).mono ?_;rintro e w1 ⟨rfl,aA⟩;have ap:Hid (w.grownBy w1 none):=il (az _ _) aA;have j:w1.heap[w.heap.size]?=some (.cells #[.slice d p.length f] 37 (0,0)):=by
  rw [aA.block w.heap.size (by simp;omega) (by simp),Below.heap_alloc _ _ _ (by simp)];exact heap_alloc_new w _
 have c0:w1.cell? ⟨w.heap.size,0,none⟩=some (.slice d p.length f):=by simp [World.cell?,j]
 clear j aA;by_cases B:checkRunsN p [a,b]=0
 ·have R:=ij B;obtain⟨hv,h5,h6⟩:=rU B;have F:=ij hv;rw [B];clear B hv;go_wp2_with fail
  refine(uV F.out (HP.out.pres (ip ap.out))).mono ?_;rintro e w2 ⟨m,rfl,hM,N⟩;have HM:=ij hM;have S:Hid (w.grownBy w2 none):=il ap.out N;have c2:=ip N _ _ c0;clear hM N c0;go_wp2_with fail
  refine(qo F.out HM.out (Nat.le_refl _) ((HI.out.pres (ip S.out)).mono S.out.size) h5).mono ?_;rintro e w3 ⟨rv,rfl,hR,O⟩;have aI:Hid (w.grownBy w3 none):=il S.out O;have HR:=ij hR;have c3:=ip O _ _ c2;have bp:Hid (MachAt w2.heap.size w3 m p):=HM.out.grown' (Nat.le_refl _) O;have bA:=O.size;obtain⟨sv,gv,rfl,P,Q⟩:=hR;obtain⟨x1,x2,x3,rfl⟩:=iw P;obtain⟨o,q,r,rfl⟩:=iw Q;clear O c2 P Q;have bl:Hid (IntsAt w2.heap.size w3 (.slice sp b.length sd) b):=(HJ.out.pres (ip aI.out)).mono S.out.size;go_wp2_with fail
  refine(qo F.out bp.out bA bl.out h6).mono ?_;rintro e c ⟨rv,rfl,a8,ai⟩;have aq:Hid (w.grownBy c none):=il aI.out ai;have bh:=ij ai;have aQ:=ij a8;have c4:=ip ai _ _ c3;obtain⟨sv,gv,rfl,P,Q⟩:=a8;obtain⟨z1,s,t,rfl⟩:=iw P;obtain⟨k,l,n,rfl⟩:=iw Q;clear ai c3 P Q;have bn:=ij (fun(w:World) (h:w3.grownBy w none) (C:ProgAt w (.agg #[.slice d p.length f]) p)=>lB F.out a h5 HR.out w h (.agg #[.slice d p.length f]) C);have bo:=ij (fun(w:World) (h:c.grownBy w none) (C:ProgAt w (.agg #[.slice d p.length f]) p)=>lB F.out b h6 aQ.out w h (.agg #[.slice d p.length f]) C);have aR:Hid (sameS p a b=(likeV (runS p a) (runS p b) && (formS p (runS p a)==formS p (runS p b)))):=rfl;have bg:Hid ((formS p (runS p a)).length<=500):=by
   unfold Hid formS;rw [kt];obtain⟨xs,ba⟩:=kZ F.out a;rw [ba.ev];have h1:=kY p a;rw [ba.st]at h1;simp at h1;omega
  clear HR aQ;generalize bx:runS p a=oa at*;generalize bz:runS p b=ob at*;clear bx bz;go_upto_region 6 with fail
  have am:Hid (((c.alloc (.cells #[.int .i64 oa.kind,.int .i64 oa.thread,.int .i64 oa.at_,.slice x1 x2 x3,.int .i64 (oa.st.vars 0),.int .i64 (oa.st.vars 1),.int .i64 (oa.st.vars 2),.int .i64 (oa.st.vars 3),.slice o q r] 31)).alloc (.cells #[.int .i64 ob.kind,.int .i64 ob.thread,.int .i64 ob.at_,.slice z1 s t,.int .i64 (ob.st.vars 0),.int .i64 (ob.st.vars 1),.int .i64 (ob.st.vars 2),.int .i64 (ob.st.vars 3),.slice k l n] 31)).heap[c.heap.size]?=some (.cells #[.int .i64 oa.kind,.int .i64 oa.thread,.int .i64 oa.at_,.slice x1 x2 x3,.int .i64 (oa.st.vars 0),.int .i64 (oa.st.vars 1),.int .i64 (oa.st.vars 2),.int .i64 (oa.st.vars 3),.slice o q r] 31)):=by
   unfold Hid;rw [Below.heap_alloc _ _ _ (by simp)];exact heap_alloc_new _ _
  have an:Hid (((c.alloc (.cells #[.int .i64 oa.kind,.int .i64 oa.thread,.int .i64 oa.at_,.slice x1 x2 x3,.int .i64 (oa.st.vars 0),.int .i64 (oa.st.vars 1),.int .i64 (oa.st.vars 2),.int .i64 (oa.st.vars 3),.slice o q r] 31)).alloc (.cells #[.int .i64 ob.kind,.int .i64 ob.thread,.int .i64 ob.at_,.slice z1 s t,.int .i64 (ob.st.vars 0),.int .i64 (ob.st.vars 1),.int .i64 (ob.st.vars 2),.int .i64 (ob.st.vars 3),.slice k l n] 31)).heap[c.heap.size+1]?=some (.cells #[.int .i64 ob.kind,.int .i64 ob.thread,.int .i64 ob.at_,.slice z1 s t,.int .i64 (ob.st.vars 0),.int .i64 (ob.st.vars 1),.int .i64 (ob.st.vars 2),.int .i64 (ob.st.vars 3),.slice k l n] 31)):=by
   have:=heap_alloc_new (c.alloc (.cells #[.int .i64 oa.kind,.int .i64 oa.thread,.int .i64 oa.at_,.slice x1 x2 x3,.int .i64 (oa.st.vars 0),.int .i64 (oa.st.vars 1),.int .i64 (oa.st.vars 2),.int .i64 (oa.st.vars 3),.slice o q r] 31)) (.cells #[.int .i64 ob.kind,.int .i64 ob.thread,.int .i64 ob.at_,.slice z1 s t,.int .i64 (ob.st.vars 0),.int .i64 (ob.st.vars 1),.int .i64 (ob.st.vars 2),.int .i64 (ob.st.vars 3),.slice k l n] 31);unfold Hid;simpa using this
  have E:Hid (c.grownBy ((c.alloc (.cells #[.int .i64 oa.kind,.int .i64 oa.thread,.int .i64 oa.at_,.slice x1 x2 x3,.int .i64 (oa.st.vars 0),.int .i64 (oa.st.vars 1),.int .i64 (oa.st.vars 2),.int .i64 (oa.st.vars 3),.slice o q r] 31)).alloc (.cells #[.int .i64 ob.kind,.int .i64 ob.thread,.int .i64 ob.at_,.slice z1 s t,.int .i64 (ob.st.vars 0),.int .i64 (ob.st.vars 1),.int .i64 (ob.st.vars 2),.int .i64 (ob.st.vars 3),.slice k l n] 31)) none):=iq (iq (ir _ _));generalize (c.alloc (.cells #[.int .i64 oa.kind,.int .i64 oa.thread,.int .i64 oa.at_,.slice x1 x2 x3,.int .i64 (oa.st.vars 0),.int .i64 (oa.st.vars 1),.int .i64 (oa.st.vars 2),.int .i64 (oa.st.vars 3),.slice o q r] 31)).alloc (.cells #[.int .i64 ob.kind,.int .i64 ob.thread,.int .i64 ob.at_,.slice z1 s t,.int .i64 (ob.st.vars 0),.int .i64 (ob.st.vars 1),.int .i64 (ob.st.vars 2),.int .i64 (ob.st.vars 3),.slice k l n] 31)=w5 at*;have L:Hid (∀ u,w5.grownBy u none->u.cell? ⟨w.heap.size,0,none⟩=some (.slice d p.length f)/\(u.cell? ⟨c.heap.size,0,none⟩=some (.int .i64 oa.kind)/\u.cell? ⟨c.heap.size,1,none⟩=some (.int .i64 oa.thread)/\u.cell? ⟨c.heap.size,2,none⟩=some (.int .i64 oa.at_)/\u.cell? ⟨c.heap.size,3,none⟩=some (.slice x1 x2 x3)/\u.cell? ⟨c.heap.size,4,none⟩=some (.int .i64 (oa.st.vars 0))/\u.cell? ⟨c.heap.size,5,none⟩=some (.int .i64 (oa.st.vars 1))/\u.cell? ⟨c.heap.size,6,none⟩=some (.int .i64 (oa.st.vars 2))/\u.cell? ⟨c.heap.size,7,none⟩=some (.int .i64 (oa.st.vars 3))/\u.cell? ⟨c.heap.size,8,none⟩=some (.slice o q r))/\(u.cell? ⟨c.heap.size+1,0,none⟩=some (.int .i64 ob.kind)/\u.cell? ⟨c.heap.size+1,1,none⟩=some (.int .i64 ob.thread)/\u.cell? ⟨c.heap.size+1,2,none⟩=some (.int .i64 ob.at_)/\u.cell? ⟨c.heap.size+1,3,none⟩=some (.slice z1 s t)/\u.cell? ⟨c.heap.size+1,4,none⟩=some (.int .i64 (ob.st.vars 0))/\u.cell? ⟨c.heap.size+1,5,none⟩=some (.int .i64 (ob.st.vars 1))/\u.cell? ⟨c.heap.size+1,6,none⟩=some (.int .i64 (ob.st.vars 2))/\u.cell? ⟨c.heap.size+1,7,none⟩=some (.int .i64 (ob.st.vars 3))/\u.cell? ⟨c.heap.size+1,8,none⟩=some (.slice k l n))):=fun u hu=>by
   have ka:u.heap[c.heap.size]?=some (.cells #[.int .i64 oa.kind,.int .i64 oa.thread,.int .i64 oa.at_,.slice x1 x2 x3,.int .i64 (oa.st.vars 0),.int .i64 (oa.st.vars 1),.int .i64 (oa.st.vars 2),.int .i64 (oa.st.vars 3),.slice o q r] 31):=by rw [hu.block _ (Array.getElem?_eq_some_iff.1 am.out).1 (by simp)];exact am.out
   have kb:u.heap[c.heap.size+1]?=some (.cells #[.int .i64 ob.kind,.int .i64 ob.thread,.int .i64 ob.at_,.slice z1 s t,.int .i64 (ob.st.vars 0),.int .i64 (ob.st.vars 1),.int .i64 (ob.st.vars 2),.int .i64 (ob.st.vars 3),.slice k l n] 31):=by rw [hu.block _ (Array.getElem?_eq_some_iff.1 an.out).1 (by simp)];exact an.out
   obtain⟨p0,p1,p2,p3,p4,p5,p6,p7,p8,_⟩:=jl ka;obtain⟨q0,q1,q2,q3,q4,q5,q6,q7,q8,_⟩:=jl kb;exact⟨ip (il E.out hu) _ _ c4,⟨p0,p1,p2,p3,p4,p5,p6,p7,p8⟩,⟨q0,q1,q2,q3,q4,q5,q6,q7,q8⟩⟩
  have aO:Hid (∀ u,w5.grownBy u none->ProgAt u (.agg #[.slice d p.length f]) p):=fun u hu=>HP.out.pres (ip (il aq.out (il E.out hu)))
  obtain⟨_,⟨G,H,I,_⟩,⟨j,J,K,_⟩⟩:=L.out w5 (ir _ _);clear c4 am an;go_wp2_with fail
  refine(md oa ob _).mono ?_;rintro e w6 ⟨rfl,aB⟩;have A:=ij aB;have bi:Hid (w.grownBy w6 none):=il aq.out (il E.out aB);clear aB G H I j J K;cases hlk:likeV oa ob
  ·have D:Hid (sameS p a b=false):=by unfold Hid;rw [aR.out,hlk];rfl
   clear hlk;go_wp2_with fail
   exact bodyPost_ret (v:= .tuple #[.bool false,.int .i64 0]) (by simp [results,Tryz.results34,go_sem]) rfl ⟨bi.out,Or.inl ⟨R.out,by rw [D.out]⟩⟩
  ·have D:Hid (sameS p a b=(formS p oa==formS p ob)):=by unfold Hid;rw [aR.out,hlk];rfl
   clear hlk;have bt:=L.out w6.drew (iy A.out);go_wp2_with fail
   refine iz (fun u=>u.cell? ⟨w.heap.size,0,none⟩=some (.slice d p.length f)/\(u.cell? ⟨c.heap.size,0,none⟩=some (.int .i64 oa.kind)/\u.cell? ⟨c.heap.size,1,none⟩=some (.int .i64 oa.thread)/\u.cell? ⟨c.heap.size,2,none⟩=some (.int .i64 oa.at_)/\u.cell? ⟨c.heap.size,3,none⟩=some (.slice x1 x2 x3)/\u.cell? ⟨c.heap.size,4,none⟩=some (.int .i64 (oa.st.vars 0))/\u.cell? ⟨c.heap.size,5,none⟩=some (.int .i64 (oa.st.vars 1))/\u.cell? ⟨c.heap.size,6,none⟩=some (.int .i64 (oa.st.vars 2))/\u.cell? ⟨c.heap.size,7,none⟩=some (.int .i64 (oa.st.vars 3))/\u.cell? ⟨c.heap.size,8,none⟩=some (.slice o q r))/\(u.cell? ⟨c.heap.size+1,0,none⟩=some (.int .i64 ob.kind)/\u.cell? ⟨c.heap.size+1,1,none⟩=some (.int .i64 ob.thread)/\u.cell? ⟨c.heap.size+1,2,none⟩=some (.int .i64 ob.at_)/\u.cell? ⟨c.heap.size+1,3,none⟩=some (.slice z1 s t)/\u.cell? ⟨c.heap.size+1,4,none⟩=some (.int .i64 (ob.st.vars 0))/\u.cell? ⟨c.heap.size+1,5,none⟩=some (.int .i64 (ob.st.vars 1))/\u.cell? ⟨c.heap.size+1,6,none⟩=some (.int .i64 (ob.st.vars 2))/\u.cell? ⟨c.heap.size+1,7,none⟩=some (.int .i64 (ob.st.vars 3))/\u.cell? ⟨c.heap.size+1,8,none⟩=some (.slice k l n))) 8 (by kernel_rfl) (by kernel_rfl) bt ?_;intro M;refine ie 0 ?va0 rfl (by kernel_rfl) (fun _ _ _ h=>h) (by rfl) ?ya0 M ?_
   case ya0=>(rintro u ⟨aj,⟨G,H,I,W,X,Y,Z,aa,ab⟩,⟨j,J,K,ac,ad,ae,af,ag,ah⟩⟩;go_simp;try rfl)
   simp only [Act.put,List.setIfInBounds_toArray];refine ie 1 ?va1 rfl (by kernel_rfl) (fun _ _ _ h=>h) (by rfl) ?ya1 M ?_
   case ya1=>(rintro u ⟨aj,⟨G,H,I,W,X,Y,Z,aa,ab⟩,⟨j,J,K,ac,ad,ae,af,ag,ah⟩⟩;go_simp;try rfl)
   simp only [Act.put];refine ie 3 ?va3 rfl (by kernel_rfl) (fun _ _ _ h=>h) (by rfl) ?ya3 M ?_
   case ya3=>(rintro u ⟨aj,⟨G,H,I,W,X,Y,Z,aa,ab⟩,⟨j,J,K,ac,ad,ae,af,ag,ah⟩⟩;go_simp;try rfl)
   simp only [Act.put];refine ie 4 ?va4 rfl (by kernel_rfl) (fun _ _ _ h=>h) (by rfl) ?ya4 M ?_
   case ya4=>(rintro u ⟨aj,⟨G,H,I,W,X,Y,Z,aa,ab⟩,⟨j,J,K,ac,ad,ae,af,ag,ah⟩⟩;go_simp;try rfl)
   simp only [Act.put];refine iu (i:=2) rfl (by kernel_rfl) (by kernel_rfl) (by rfl) ?_;intro K2 a3;have aK:=ij a3;clear a3;go_simp;refine(bn.out _ (iy (il bh.out (il E.out A.out))) (aO.out _ (iy A.out))).mono ?_;rintro e w7 ⟨fa,rfl,U,bb⟩;obtain⟨f1,f2,f3,rfl⟩:=iw U;have bu:=iB U;subst bu;have aH:=ij (iV U);have T:Hid (w6.grownBy w7 none):=ly bb;have a1:=L.out w7 (il A.out T.out);refine aK.out _ _ a1 ?_;clear aK U bb;try simp only [Act.put,List.setIfInBounds_toArray]
   refine iu (i:=5) rfl (by kernel_rfl) (by kernel_rfl) (by rfl) ?_;intro K5 a4;have aL:=ij a4;clear a4;go_simp;refine(bo.out _ (il E.out (il A.out T.out)) (aO.out _ (il A.out T.out))).mono ?_;rintro e w8 ⟨fb,rfl,V,aC⟩;obtain⟨g1,g2,g3,rfl⟩:=iw V;have N:=iB V;subst N;have bf:=ij (iV V);have aJ:=ij aC;have ar:Hid (w5.grownBy w8 none):=il A.out (il T.out aC);have a2:=L.out w8 ar.out;refine aL.out _ _ a2 ?_;clear aL V aC;try simp only [Act.put,List.setIfInBounds_toArray]
   refine iu (i:=6) rfl (by kernel_rfl) (by kernel_rfl) (by rfl) ?_;intro K6 a5;have aM:=ij a5;clear a5;go_simp;have bw:(formS p oa).length<=9223372036854775806:=by
    obtain⟨_,_,e,_⟩:=aH.out;have:=bg.out;omega
   refine(xT (formS p oa) (formS p ob) _ _ w8 ((aH.out.pres (ip aJ.out)).mono aJ.out.size) bf.out bw).mono ?_;rintro e w9 ⟨rfl,bc⟩;have aD:w8.grownBy w9 none:=iH bc;have bj:Hid (w.grownBy w9 none):=il (il aq.out E.out) (il ar.out aD);have aw:=L.out w9 (il ar.out aD);refine aM.out _ _ aw ?_;clear aM bc aD;try simp only [Act.put,List.setIfInBounds_toArray]
   refine ie 7 ?vb7 rfl (by kernel_rfl) (fun _ _ _ h=>h) (by rfl) ?yb7 aw ?_
   case yb7=>(rintro u ⟨aj,⟨G,H,I,W,X,Y,Z,aa,ab⟩,⟨j,J,K,ac,ad,ae,af,ag,ah⟩⟩;go_simp;try rfl)
   simp only [Act.put,List.setIfInBounds_toArray];refine iF rfl (by kernel_rfl) (by kernel_rfl) (by rfl) ?_;go_simp;generalize hz:(formS p oa==formS p ob)=z at*;clear hz M a1 a2 aw;go_wp2_with fail
   exact bodyPost_ret (v:= .tuple #[.bool z,.int .i64 0]) (by simp [results,Tryz.results34,go_sem]) rfl ⟨bj.out,Or.inl ⟨R.out,by rw [D.out]⟩⟩
 ·have R:=ij B;have hne:(checkRunsN p [a,b] !=0)=true:=by simpa using B
  clear B;generalize hE:checkRunsN p [a,b]=e at*;have D:=ij hE;clear hE;go_wp2_with fail
  exact bodyPost_ret (v:= .tuple #[.bool false,.int .i64 e]) (by simp [results,Tryz.results34,go_sem]) rfl ⟨ap.out,Or.inr ⟨by rw [D.out];exact R.out,by rw [D.out]⟩⟩
end
section
open Go.RowKit
section
variable {P : Program} {w : World} {ops : Array Oper} {rest : List Oper} {o : Oper} {a : Act} {Q : Exit -> Act -> World -> Prop}
theorem jk(J:o.guard=none)(s x:Operand)(t:TypeId)(y:o.op= .call { callee:= .builtin .append,args:= #[s,x],argTypes:= #[t,t]})
  (base:Nat) (e:TypeId) (i:TypeInfo) (z:Value) (b l:Nat) (B:P.underlying t=some (.slice e)) (r:P.info? e=some i) (T:i.zero=some z) (N:i.size=b) (H:i.bytes=l) (U:z.cells.size=b) (R:0<b)
  (v:Value) (n:Nat) (xs:List Value) (A:a.eval s=v) (f:w.ownsRow base e b v n xs) (k:Option Addr) (m c:Nat) (d:List Value) (C:a.eval x= .slice k m c) (L:d.length=m*b)
  (O:k=none->m=0/\c=0) (M:∀ ad,k=some ad->∀ j u,d[j]?=some u->w.cell? (ad.add j)=some u) (D:∀ u∈d,u.oneCell'=true) (F:n+m<=maxLen) (I:(n+m)*l<=140737488355328) (G:base<=w.heap.size)
  (h:∀ ta tn tc w',w'.ownsRow base e b (.slice ta tn tc) (n+m) (xs++d)->w.grownBy w' v.ownBlock->wpList P ops Q rest (a.put o.dst (.slice ta tn tc)) w'):wpList P ops Q (o::rest) a w:=by
 refine wpList_plain J fun K hK=>?_
 cases k with
 | none=>
  obtain⟨rfl,rfl⟩:=O rfl;have p:=run_append_owned_none (P:=P) w base t o.type e i b B r v n xs f;have S:d=[]:=List.length_eq_zero_iff.1 (by omega);obtain⟨ta,tn,tc,rfl⟩:=iw f;unfold Oper.wp;simp [execOp,y,resolve,invoke,builtin,A,C,p,Result.andThen];exact hK _ _ (h _ _ _ w (by rw [S];simpa using f) (ir _ _))
 | some ad=>
  obtain⟨v',w',p,q,E,h4,h5⟩:=run_append_own_at (P:=P) w base t o.type e i z b l B r T N H U R v n xs f ad m c d L (M ad rfl) D F I G;obtain⟨ta,tn,tc,rfl⟩:=iw q;unfold Oper.wp;simp [execOp,y,resolve,invoke,builtin,A,C,p,Result.andThen];exact hK _ _ (h _ _ _ w' q E)
end
end
section
open Go.RowKit
attribute [local go_sem] Go.World.cell?_alloc_some nZ
end
section
open Go.RowKit
attribute [local go_sem] Go.World.cell?_alloc_some
theorem pZ:((Tryz.prog.info? 3).map fun i=>(i.zero,i.size,i.bytes))=some (some (.int .i64 0),1,8):=by kernel_rfl
theorem BE(n:Nat)(w:World)(hn:n<=1000000):
  Calls Tryz.prog 131 #[.slice none 0 0,.int .i64 n] w fun e w'=>∃ v,e= .returned v/\w'.ownsRow w.heap.size 3 1 v 0 []/\w.grownBy w' none:=by
 obtain⟨j,d,h,hz1,i⟩:=info_parts pZ;rcases Nat.eq_zero_or_pos n with e | h0
 ·subst e;go_enter Tryz.func131,Tryz.ntmps131
  go_wp2
  go_ret;exact⟨_,rfl,⟨rfl,Or.inl ⟨rfl,rfl⟩⟩,ir _ _⟩
 ·have f:∀ ty,(Builtin.append_ #[39,3] ty #[.slice none 0 0,.int .i64 (n:Int)]).run Tryz.prog w=_:=fun ty=>Lib.run_append_nil_zeros w 39 3 ty 3 j _ .i64 .i64 Tryz.underlying39 Tryz.underlying3 d h n h0 (by omega) (by omega) (by rw [i];omega)
  have hGn:n<=grownCap w n 0 3:=grownCap_ge w _ _ _;have a:grownCap w n 0 3<=maxLen:=grownCap_le_maxLen w n 0 3 (by unfold maxLen;omega);generalize grownCap w n 0 3=G at*;have b:Hid ((w.drew.alloc (.cells (Builtin.zeroCells (Value.int .i64 0).cells n++Builtin.zeroCells (Value.int .i64 0).cells (G - n)) 3)).ownsRow w.heap.size 3 1 (.slice (some ⟨w.heap.size,0,none⟩) 0 G) 0 []):=by
   refine⟨rfl,Or.inr ⟨w.heap.size,G,_,rfl,Nat.le_refl _,heap_alloc_new w.drew _,Nat.zero_le _,a,?_,by simp⟩⟩;simp [Builtin.zeroCells,Value.cells];omega
  have c:Hid (w.grownBy (w.drew.alloc (.cells (Builtin.zeroCells (Value.int .i64 0).cells n++Builtin.zeroCells (Value.int .i64 0).cells (G - n)) 3)) none):=⟨rfl,rfl,rfl,by simp,fun k hk _=>heap_alloc_old w.drew _ hk⟩;have h1:(0:Int)<(n:Int):=by omega
  have h2:(n:Int)<=1000000:=by omega
  have h3:(0:Int)<=(n:Int):=by omega
  generalize w.drew.alloc (.cells (Builtin.zeroCells (Value.int .i64 0).cells n++Builtin.zeroCells (Value.int .i64 0).cells (G - n)) 3)=w' at*;have h5:G<=9223372036854775807:=by unfold maxLen at a;omega
  clear a;go_enter Tryz.func131,Tryz.ntmps131
  go_wp2_with (at_builtin;refine Lib.wpList_append_run _ rfl _ _ _ _ rfl _ _ rfl rfl _ _ (f _) ?_)
  go_ret;exact⟨_,rfl,b.out,c.out⟩
def nilOk(x:Value):Prop:=∀ n c,x= .slice none n c->n=0/\c=0
def RowsAt(w:World)(v:Value)(ss:List (List Int)):Prop:=
 ∃ g o cap,v= .slice (some ⟨g,o,none⟩) ss.length cap/\g<w.heap.size/\∀ k (hk:k<ss.length),∃ x,w.cell? ⟨g,o+k,none⟩=some x/\IntsAt w.heap.size w x ss[k]/\nilOk x
theorem lL(a:List (List Int))(k:Nat)(b:k<a.length):(a.take (k+1)).flatten=(a.take k).flatten++a[k]:=by
 rw [List.take_succ_eq_append_getElem b,List.flatten_append];simp
theorem qM(a:List (List Int))(k:Nat):(a.take k).flatten.length<=a.flatten.length:=by
 conv=>rhs;rw [<-List.take_append_drop k a,List.flatten_append,List.length_append]
 omega
theorem wo{w:World}{g o c:Nat}{l:List Int}(h:IntsAt w.heap.size w (.slice (some ⟨g,o,none⟩) l.length c) l):∀ j u,(ints l)[j]?=some u->w.cell? ((⟨g,o,none⟩:Addr).add j)=some u:=by
 intro j u a;obtain⟨ao,cap,e,_,i⟩:=h;have b:=(List.getElem?_eq_some_iff.1 a).1;rw [jc]at b;obtain⟨g',o',d,e2,f⟩:=i j b;simp only [Value.slice.injEq]at e;rw [d]at e;simp only [Option.some.injEq,Addr.mk.injEq,and_true]at e;obtain⟨⟨rfl,rfl⟩,_⟩:=e;have k:(⟨g,o,none⟩:Addr).add j=⟨g,o+j,none⟩:=by unfold Addr.add;split<;>simp_all
 rw [k,f];have:(ints l)[j]?=some (.int .i64 l[j]):=by simp [ints,b]
 rw [this]at a;exact a
theorem ox(a:List (List Int))(sv:Value)(w:World)(Z:RowsAt w sv a)(hn:a.length<=1000)(ht:a.flatten.length<=1000000):
  Calls Tryz.prog 89 #[sv] w fun e w'=>∃ v,e= .returned v/\w'.ownsRow w.heap.size 3 1 v a.flatten.length (ints a.flatten)/\w.grownBy w' none:=by
 obtain⟨i0,ab,aj,ak,al⟩:=info_parts pZ;obtain⟨g,o,cap,rfl,hg,hc⟩:=Z;have D:=ij hc;have hn':(a.length:Int)<=1000:=by omega
 clear hc;go_enter Tryz.func89,Tryz.ntmps89
 go_wp2_with fail
 go_loopw [3,11] (fun z i w'=>∃ k n:Nat,k<=a.length/\i= .int .i64 k/\z= .int .i64 n/\Hid (n=(a.take k).flatten.length)/\Hid (w'=w)) (fun _ i _=>a.length - (intOf i).toNat)
 case atStart=>exact⟨0,0,Nat.zero_le _,rfl,rfl,rfl,rfl⟩
 case round=>
  obtain⟨k,n,M,rfl,rfl,l,I⟩:=hrel;obtain rfl:=I.out.symm;clear I;have N:n<=1000000:=by have:=l.out;have:=qM a k;omega
  have ai:(n:Int)<=1000000:=by omega
  have ah:(0:Int)<=(n:Int):=by omega
  by_cases c:k<a.length
  ·obtain⟨x,c0,h,r⟩:=D.out k c;obtain⟨m,t,rfl⟩:=h.form;have ag:n+a[k].length<=1000000:=by
    have B:=qM a (k+1);rw [lL a k c,List.length_append]at B;have:=l.out;omega
   have p:Hid (n+a[k].length=(a.take (k+1)).flatten.length):=by
    unfold Hid;rw [lL a k c,List.length_append,l.out]
   clear h r;generalize a[k]=s at*;have hs0:(0:Int)<=(s.length:Int):=by omega
   have hs1:(n:Int)+(s.length:Int)<=1000000:=by omega
   have hs2:(0:Int)<=(n:Int)+(s.length:Int):=by omega
   have ae:(0:Int)<=(k:Int):=by omega
   have q:(k:Int)<a.length:=by omega
   go_wp2_with fail
   go_roundw
   case rel=>exact⟨k+1,n+s.length,by omega,by go_num,by go_num,p,(by first | exact trivial | rfl)⟩
   case measure=>simp [intOf];omega
  ·have q:(a.length:Int)<=(k:Int):=by omega
   have S:Hid (n=a.flatten.length):=by unfold Hid;rw [l.out,List.take_of_length_le (by omega)]
   go_wp2_with (go_at_call 131;refine(BE n _ N).mono ?_;rintro e w1 ⟨v1,rfl,C,J⟩)
   obtain⟨a1,a2,a3,rfl⟩:=iw C;have G:=ij C;have E:=ij J;clear C J l S N ai ah M c q;go_wp2_with fail
   go_loopw [6,27] (fun v i w'=>∃ k:Nat,k<=a.length/\i= .int .i64 k/\Hid (w'.ownsRow w.heap.size 3 1 v (a.take k).flatten.length (ints (a.take k).flatten))/\Hid (w.grownBy w' none)) (fun _ i _=>a.length - (intOf i).toNat)
   case atStart=>exact⟨0,Nat.zero_le _,rfl,G,E⟩
   case round=>
    clear G E;obtain⟨k,M,rfl,f,b⟩:=hrel;obtain⟨d,P⟩:∃ d,d=wr:=⟨_,rfl⟩;rw [<-P]at f b ⊢;clear P;by_cases c:k<a.length
    ·obtain⟨x,c0,h,r⟩:=D.out k c;obtain⟨m,t,rfl⟩:=h.form;have d0:=ip b.out _ _ c0;have ag:(a.take k).flatten.length+a[k].length<=1000000:=by
      have B:=qM a (k+1);rw [lL a k c,List.length_append]at B;omega
     have p:Hid ((a.take (k+1)).flatten=(a.take k).flatten++a[k]):=lL a k c;have y:Hid (IntsAt d.heap.size d (.slice m a[k].length t) a[k]):=(h.pres (ip b.out)).mono b.out.size;have H:Hid (m=none->a[k].length=0/\t=0):=fun e=>r _ _ (by rw [e])
     have F:Hid (∀ A,m=some A->∀ j u,(ints a[k])[j]?=some u->d.cell? (A.add j)=some u):=by
      rintro A rfl j u L;have hl:=(List.getElem?_eq_some_iff.1 L).1;rw [jc]at hl;obtain⟨ao,cp,e,_,X⟩:=y.out;obtain⟨g',o',W,_⟩:=X 0 (by omega);simp only [Value.slice.injEq]at e;rw [W]at e;simp only [Option.some.injEq]at e;obtain⟨rfl,_⟩:=e;exact wo y.out j u L
     clear c0 h r;generalize a[k]=s at*;obtain⟨b1,b2,b3,hv⟩:=iw f.out;have ae:(0:Int)<=(k:Int):=by omega
     have q:(k:Int)<a.length:=by omega
     have ac:(ints s).length=s.length*1:=by rw [jc];omega
     have Y:(a.take k).flatten.length+s.length<=maxLen:=by unfold maxLen;omega
     have aa:w.heap.size<=d.heap.size:=b.out.size;have U:=ij (iA f.out);go_wp2_with (at_builtin;refine jk rfl _ _ _ rfl w.heap.size 3 i0 _ 1 8 Tryz.underlying39 ab aj ak al rfl (by omega) u6 (a.take k).flatten.length (ints (a.take k).flatten) rfl f.out m s.length t (ints s) rfl ac H.out F.out (lz _) Y (by omega) aa ?_;intro ta tn tc Q O K)
     have T:Hid (Q.ownsRow w.heap.size 3 1 (.slice ta tn tc) (a.take (k+1)).flatten.length (ints (a.take (k+1)).flatten)):=by
      unfold Hid;rw [p.out,List.length_append]
      have:ints ((a.take k).flatten++s)=ints (a.take k).flatten++ints s:=by simp [ints]
      rw [this];exact O
     have R:Hid (w.grownBy Q none):=iZ b.out K U.out;clear O K f b p y H F;go_wp2_with fail
     go_roundw
     case rel=>exact⟨k+1,by omega,by go_num,T,R⟩
     case measure=>simp [intOf];omega
    ·have q:(a.length:Int)<=(k:Int):=by omega
     have V:Hid (d.ownsRow w.heap.size 3 1 u6 a.flatten.length (ints a.flatten)):=by
      have:=f.out;rwa [List.take_of_length_le (by omega)]at this
     go_wp2_with fail
     go_ret;exact⟨_,rfl,V.out,b.out⟩
theorem yV{W:World}{x:Value}{l:List Int}{t:TypeId}{g:Nat}(b:W.heap.size=g)(h:IntsAt W.heap.size W x l)(c:nilOk x):RowsAt (W.alloc (.cells #[x] t)) (.slice (some ⟨g,0,none⟩) 1 1) [l]:=by
 subst b;refine⟨W.heap.size,0,1,rfl,by simp,fun k hk=>⟨x,?_,?_,c⟩⟩
 ·have a:k=0:=by simp at hk;omega
  subst a;have h:=heap_alloc_new W (.cells #[x] t);simp only [World.cell?,h];rfl
 ·have a:k=0:=by simp at hk;omega
  subst a;exact(h.pres (ip (iq (ir _ _)))).mono (by simp)
theorem sY{W:World}{x y:Value}{l m:List Int}{t:TypeId}{g:Nat}(d:W.heap.size=g)(h:IntsAt W.heap.size W x l)(f:nilOk x)(c:IntsAt W.heap.size W y m)(i:nilOk y):RowsAt (W.alloc (.cells #[x,y] t)) (.slice (some ⟨g,0,none⟩) 2 2) [l,m]:=by
 subst d;have a:=heap_alloc_new W (.cells #[x,y] t);have b:∀ {v:Value} {l:List Int},IntsAt W.heap.size W v l->IntsAt (W.alloc (.cells #[x,y] t)).heap.size (W.alloc (.cells #[x,y] t)) v l:=fun h=>(h.pres (ip (iq (ir _ _)))).mono (by simp)
 refine⟨W.heap.size,0,2,rfl,by simp,fun k hk=>?_⟩;have e:k=0\/k=1:=by simp at hk;omega
 rcases e with rfl | rfl
 ·exact⟨x,by simp only [World.cell?,a];rfl,b h,f⟩
 ·exact⟨y,by simp only [World.cell?,a];rfl,b c,i⟩
theorem MachAt.mono{B a:Nat}{w:World}{m:Nat}{p:List (List Ins)}(H:MachAt B w m p)(e:B<=a):MachAt a w m p:=by
 obtain⟨g,b,h1,h2,c,d⟩:=H;refine⟨g,b,by omega,by omega,c,fun t ht=>?_⟩;obtain⟨v,k1,k2⟩:=d t ht;exact⟨v,k1,k2.mono e⟩
theorem IntsAt.front{B:Nat}{w:World}{b:Option Addr}{d n:Nat}{l:List Int}(h:IntsAt B w (.slice b l.length d) l)(q:n<=l.length):IntsAt B w (.slice b n d) (l.take n):=by
 obtain⟨a,c,e,h1,m⟩:=h;simp only [Value.slice.injEq,true_and]at e;obtain⟨rfl,rfl⟩:=e;refine⟨b,d,by simp [Nat.min_eq_left q],by simp;omega,fun k hk=>?_⟩;have p:k<l.length:=by simp at hk;omega
 obtain⟨g,o,f,i,j⟩:=m k p;exact⟨g,o,f,i,by rw [List.getElem_take];exact j⟩
theorem ud(o:Out)(w:World)(h c:Option Addr)(i f d:Nat)(j k l m:Int)(hl:o.steps.length<=1000):
  Calls Tryz.prog 90 #[.agg #[.int .i64 o.kind,.int .i64 o.thread,.int .i64 o.at_,.slice h o.steps.length i,.int .i64 j,.int .i64 k,.int .i64 l,.int .i64 m,.slice c f d]] w fun e w'=>e= .returned (.int .i64 (cameTo o))/\w.grownBy w' none:=by
 have hl':(o.steps.length:Int)<=1000:=by omega
 by_cases a:o.kind=2
 ·have b:Hid (((cameTo o:Nat):Int)=o.steps.length+1):=by unfold Hid cameTo;rw [if_pos a];simp
  rw [a];go_enter Tryz.func90,Tryz.ntmps90
  go_wp2_with fail
  go_ret;exact⟨by rw [b.out];first | rfl | go_num,iq (ir _ _)⟩
 ·have b:Hid (((cameTo o:Nat):Int)=o.steps.length):=by unfold Hid cameTo;rw [if_neg a]
  have hb:(o.kind==2)=false:=by simpa using a
  clear a;go_enter Tryz.func90,Tryz.ntmps90
  go_wp2_with fail
  go_ret;exact⟨by rw [b.out];first | rfl | go_num,iq (ir _ _)⟩
end
section
open Go.RowKit
theorem mS(k t a:Int)(sv b:Value)(c d e f:Value)(w:World):(Instr.field 31 (.agg #[.int .i64 k,.int .i64 t,.int .i64 a,sv,c,d,e,f,b]) 0).run Tryz.prog w= .ok (.agg #[.int .i64 k,.int .i64 t,.int .i64 a]) w:=by
 simp [Instr.field,run_underlying Tryz.underlying31,asAgg,part,Tryz.isAgg26,Tryz.sizeOf26]
end
section
open Go.RowKit
attribute [local go_sem] Go.World.cell?_alloc_some mS
theorem oG(p:List (List Ins))(l:List Int):(runS p l).steps.length<=l.length:=by
 obtain⟨m,h1,h2,a,_⟩:=lf p l 0 St.zero [];unfold runS;simp at a;omega
def resCl(o:Out)(sv gv:Value):Array Value:= #[.int .i64 o.kind,.int .i64 o.thread,.int .i64 o.at_,sv,.int .i64 (o.st.vars 0),.int .i64 (o.st.vars 1),.int .i64 (o.st.vars 2),.int .i64 (o.st.vars 3),gv]
theorem uP{B:Nat}{w:World}{g b i:Nat}{l:List Int}(h:IntsAt B w (.slice (some ⟨g,0,none⟩) l.length b) l)(hi:i<l.length):
  IntsAt B w (.slice (some ⟨g,i+1,none⟩) (l.length - (i+1)) (b - (i+1))) (l.drop (i+1)):=by
 obtain⟨a,c,e,h1,m⟩:=h;simp only [Value.slice.injEq,true_and]at e;obtain⟨rfl,rfl⟩:=e;refine⟨some ⟨g,i+1,none⟩,b - (i+1),by simp,by simp;omega,fun k hk=>?_⟩;have n:i+1+k<l.length:=by simp at hk;omega
 obtain⟨g',o',d,f,j⟩:=m (i+1+k) n;simp only [Option.some.injEq,Addr.mk.injEq,and_true]at d;obtain⟨rfl,rfl⟩:=d;refine⟨g,i+1,rfl,f,?_⟩;rw [List.getElem_drop];simpa using j
theorem lp{w:World}{o:Obj}:w.grownBy (w.drew.alloc o) none:=⟨rfl,rfl,rfl,by simp,fun k hk _=>heap_alloc_old w.drew _ hk⟩
theorem qQ{w w':World}(h:w.drew.grownBy w' none):w.grownBy w' none:=⟨h.os,h.tape,h.output,h.size,h.block⟩
theorem BN{B:Nat}{w:World}{a:Option Addr}{c:Nat}:IntsAt B w (.slice a 0 c) []:=⟨a,c,rfl,Nat.zero_le _,fun k hk=>by simp at hk⟩
theorem ll{a:Addr}{n c:Nat}:nilOk (.slice (some a) n c):=fun n' c' e=>by simp at e
theorem A6{m:Nat}{w:World}{p:List (List Ins)}{v:Value}{b:List Int}{fuel:Int}(hp:vProg p=true)(hM:MachAt w.heap.size w m p)(U:IntsAt w.heap.size w v b)(aE:nilOk v)(a8:b.length<=500)
  (hf0:0<=fuel) (hf1:fuel<=9223372036854775807):
  Calls Tryz.prog 58 #[.pointer (some ⟨m,0,none⟩),v,.int .i64 fuel] w fun e w'=>∃ sv,e= .returned (.tuple #[sv,.int .i64 ((shortS p b fuel.toNat).2:Nat)])/\w'.ownsRow w.heap.size 3 1 sv (shortS p b fuel.toNat).1.length (ints (shortS p b fuel.toNat).1)/\w.grownBy w' none:=by
 have HP:=ij hp;have HM:=ij hM;have HV:=ij U;have HN:=ij aE;obtain⟨so,K,rfl⟩:=U.form;have hcap:b.length<=K:=by
  obtain⟨a,c,e,h1,_⟩:=U;simp only [Value.slice.injEq]at e;omega
 clear hp hM U aE;have HC:=ij (vb p b);go_enter Tryz.func58,Tryz.ntmps58
 go_wp2_with fail
 refine(qo HP.out HM.out (Nat.le_refl _) HV.out a8).mono ?_;rintro e q ⟨rv,rfl,⟨sv,gv,rfl,ae,aG⟩,az⟩;obtain⟨x1,x2,x3,rfl⟩:=iw ae;obtain⟨y1,y2,y3,rfl⟩:=iw aG;have bi:=iB ae;subst bi;have ag:=ij az;have hln:=oG p b;have hcl:=HC.out.2;have ap:Hid (∀ n,shortS p b n=shr p (runS p b) n (b.take (cameTo (runS p b))) 0 0):=fun n=>rfl
 clear ae aG az;generalize hO:runS p b=o at*;clear hO;have bd:o.steps.length<=1000:=by omega
 have ec:∃ f:Nat,f=cameTo o:=⟨_,rfl⟩;obtain⟨f,ad⟩:=ec;rw [<-ad]at hcl ap;have aV:=ij ad;clear ad;have c0:(f:Int)<=K:=by omega
 have c1:(0:Int)<=(f:Int):=by omega
 go_wp2_with (go_at_call 90;refine(ud o _ _ _ _ _ _ _ _ _ _ bd).mono ?_;rintro e z ⟨rfl,O⟩;rw [<-aV.out])
 have x:Hid (w.grownBy z none):=il (il ag.out (iq (ir _ _))) O;have bf:q.heap.size<z.heap.size:=by have:=O.size;simp at this;omega
 have aT:Hid (z.heap[q.heap.size]?=some (.cells (resCl o (.slice x1 o.steps.length x3) (.slice y1 y2 y3)) 31 (0,0))):=by
  unfold Hid;rw [O.block _ (by simp) (by simp)];exact heap_alloc_new q _
 have aZ:Hid (MachAt w.heap.size z m p):=HM.out.grown' (Nat.le_refl _) x.out;have ai:Hid (IntsAt z.heap.size z (.slice so f K) (b.take f)):=((HV.out.pres (ip x.out)).mono x.out.size).front hcl;have al:Hid (nilOk (.slice so f K)):=fun n c e=>by
  simp only [Value.slice.injEq]at e;have:=HN.out b.length K (by rw [e.1]);omega
 clear O ag;have C:([b.take f]:List (List Int)).flatten=b.take f:=by simp
 refine(ox [b.take f] _ _ (yV rfl ai.out al.out) (by simp) (by rw [C];simp;omega)).mono ?_;rintro e w3 ⟨sv3,rfl,Q,aA⟩;rw [C]at Q;obtain⟨z1,z2,z3,rfl⟩:=iw Q;have am:Hid (w3.ownsRow w.heap.size 3 1 (.slice z1 z2 z3) (b.take f).length (ints (b.take f))):=iK Q (by have:=x.out.size;simp;omega);have ah:Hid (z.grownBy w3 none):=il (iq (ir _ _)) aA;have bc:(b.take f).length<=500:=by simp;omega
 clear Q aA ai al C;go_wp2_with fail
 go_loopw [9,10,11] (fun sv r iv w'=>∃ (l:List Int) (i u:Nat),r= .int .i64 u/\iv= .int .i64 i/\l.length<=500/\i<=l.length/\(u:Int)<=fuel/\Hid (w'.ownsRow w.heap.size 3 1 sv l.length (ints l))/\Hid (z.grownBy w' none)/\Hid (shr p o (fuel.toNat - u) l i u=shr p o fuel.toNat (b.take f) 0 0)) (fun _ r _ _=>fuel.toNat - (intOf r).toNat)
 case atStart=>exact⟨b.take f,0,0,rfl,rfl,bc,Nat.zero_le _,by omega,am,ah,rfl⟩
 case round=>
  clear am ah;obtain⟨l,i,u,rfl,rfl,be,hil,j,A,D,HS⟩:=hrel;obtain⟨t,aK⟩:∃ t,t=wr:=⟨_,rfl⟩;rw [<-aK]at A D ⊢;clear aK;have q0:(0:Int)<=(i:Int):=by omega
  have q1:(0:Int)<=(u:Int):=by omega
  have q2:(l.length:Int)<=500:=by omega
  by_cases aD:i<l.length/\(u:Int)<fuel
  ·obtain⟨P,huf⟩:=aD;obtain⟨y,k,bh⟩:∃ y k,u9= .slice (some ⟨y,0,none⟩) l.length k:=by
    rcases A.out.2 with ⟨_,e⟩ | ⟨y,k,_,e,_⟩
    ·omega
    ·exact⟨y,k,e⟩
   subst bh;have Z:=ij (iV A.out);have hcp:l.length<=k:=by
    obtain⟨a,c,e,h1,_⟩:=Z.out;simp only [Value.slice.injEq]at e;omega
   have q3:(i:Int)<l.length:=by omega
   have q4:(i:Int)<=k:=by omega
   have q5:(i:Int)+1<=l.length:=by omega
   have q6:(l.length:Int)<=k:=by omega
   have aF:fuel.toNat - u=(fuel.toNat - (u+1))+1:=by omega
   have aq:Hid (shr p o fuel.toNat (b.take f) 0 0=if likeV (runS p (leftOut l i)) o=true then shr p o (fuel.toNat - (u+1)) (leftOut l i) 0 (u+1) else shr p o (fuel.toNat - (u+1)) l (i+1) (u+1)):=by
    unfold Hid;rw [<-HS.out,aF,shr,if_pos P]
   have hll:=lD P;clear HS aF;go_upto_region 7 with fail
   have V:Hid (IntsAt t.drew.heap.size t.drew (.slice (some ⟨y,0,none⟩) i k) (l.take i)):=Z.out.front (by omega);go_cut [12] (fun tv w'=>Hid (w'.ownsRow w.heap.size 3 1 tv (leftOut l i).length (ints (leftOut l i))/\t.grownBy w' none))
   case first=>
    have aM:IntKind.i64.wrap ((i:Int)+1)=(i:Int)+1:=by rw [IntKind.wrap_i64];omega
    have htn:((i:Int)+1).toNat=i+1:=by omega
    by_cases hsk:k - (i+1)=0
    ·have X:Hid (IntsAt t.drew.heap.size t.drew (.slice (some ⟨y,0,none⟩) (l.length - (i+1)) 0) (l.drop (i+1))):=by
      have e1:l.drop (i+1)=[]:=List.drop_of_length_le (by omega);have e2:l.length - (i+1)=0:=by omega
      unfold Hid;rw [e1,e2];exact BN
     have Y:Hid (k=i+1):=by unfold Hid;omega
     refine iz (fun _=>True) 9 (by kernel_rfl) (by kernel_rfl) trivial ?_;intro d;refine ie 0 ?va0 rfl (by kernel_rfl) (fun _ _ _ h=>h) (by rfl) ?ya0 d ?_
     case ya0=>(intro u j;go_simp;try rfl)
     simp only [Act.put,List.setIfInBounds_toArray];refine ie 1 ?va1 rfl (by kernel_rfl) (fun _ _ _ h=>h) (by rfl) ?ya1 d ?_
     case ya1=>(intro u j;go_simp;try rfl)
     simp only [Act.put];refine ie 2 ?va2 rfl (by kernel_rfl) (fun _ _ _ h=>h) (by rfl) ?ya2 d ?_
     case ya2=>(intro u j;go_simp;try rfl)
     simp only [Act.put];refine ie 3 ?va3 rfl (by kernel_rfl) (fun _ _ _ h=>h) (by rfl) ?ya3 d ?_
     case ya3=>(intro u j;go_simp;try rfl)
     simp only [Act.put];refine ie 4 ?va4 rfl (by kernel_rfl) (fun _ _ _ h=>h) (by rfl) ?ya4 d ?_
     case ya4=>(intro u j;go_simp;try rfl)
     simp only [Act.put];refine jr (i:=5) (v:= .int .i64 ((i:Int)+1)) rfl (by kernel_rfl) (fun _ _ _ h=>h) (Or.inl ⟨by rfl,?ya5⟩) d ?resta5
     case ya5=>(intro u j;go_simp;try rw [aM])
     simp only [Act.put];refine jr (i:=6) (v:= .slice (some ⟨y,0,none⟩) (l.length - (i+1)) 0) rfl (by kernel_rfl) (fun _ _ _ h=>h) (Or.inl ⟨by rfl,?ya6⟩) d ?resta6
     case ya6=>(intro u j;have bb:=Y.out;go_simp;first | done | (intro h;exfalso;omega))
     simp only [Act.put];refine iu (i:=7) rfl (by kernel_rfl) (by kernel_rfl) (by rfl) ?_;intro K7 I;have G:=ij I;clear I;go_simp;refine G.out _ _ trivial ?_;clear G;try simp only [Act.put,List.setIfInBounds_toArray]
     refine iu (i:=8) rfl (by kernel_rfl) (by kernel_rfl) (by rfl) ?_;intro K8 J;have H:=ij J;clear J;go_simp;refine(ox [l.take i,l.drop (i+1)] _ _ (sY (W:=t.drew) rfl V.out ll X.out ll) (by simp) (by simp;omega)).mono ?_;rintro e w6 ⟨tv,rfl,s,B⟩;have C:([l.take i,l.drop (i+1)]:List (List Int)).flatten=leftOut l i:=by simp [leftOut]
     rw [C]at s;refine H.out _ _ trivial ?_;clear H;try simp only [Act.put,List.setIfInBounds_toArray]
     refine iF rfl (by kernel_rfl) (by kernel_rfl) (by rfl) ?_;go_simp;go_wp2
     go_meet
     exact⟨iK s (by have:=x.out.size;have:=D.out.size;simp;omega),il lp B⟩
    ·have X:Hid (IntsAt t.drew.heap.size t.drew (.slice (some ⟨y,i+1,none⟩) (l.length - (i+1)) (k - (i+1))) (l.drop (i+1))):=uP Z.out P;have Y:Hid (¬k=i+1):=by unfold Hid;omega
     refine iz (fun _=>True) 9 (by kernel_rfl) (by kernel_rfl) trivial ?_;intro d;refine ie 0 ?vb0 rfl (by kernel_rfl) (fun _ _ _ h=>h) (by rfl) ?yb0 d ?_
     case yb0=>(intro u j;go_simp;try rfl)
     simp only [Act.put,List.setIfInBounds_toArray];refine ie 1 ?vb1 rfl (by kernel_rfl) (fun _ _ _ h=>h) (by rfl) ?yb1 d ?_
     case yb1=>(intro u j;go_simp;try rfl)
     simp only [Act.put];refine ie 2 ?vb2 rfl (by kernel_rfl) (fun _ _ _ h=>h) (by rfl) ?yb2 d ?_
     case yb2=>(intro u j;go_simp;try rfl)
     simp only [Act.put];refine ie 3 ?vb3 rfl (by kernel_rfl) (fun _ _ _ h=>h) (by rfl) ?yb3 d ?_
     case yb3=>(intro u j;go_simp;try rfl)
     simp only [Act.put];refine ie 4 ?vb4 rfl (by kernel_rfl) (fun _ _ _ h=>h) (by rfl) ?yb4 d ?_
     case yb4=>(intro u j;go_simp;try rfl)
     simp only [Act.put];refine jr (i:=5) (v:= .int .i64 ((i:Int)+1)) rfl (by kernel_rfl) (fun _ _ _ h=>h) (Or.inl ⟨by rfl,?yb5⟩) d ?restb5
     case yb5=>(intro u j;go_simp;try rw [aM])
     simp only [Act.put];refine jr (i:=6) (v:= .slice (some ⟨y,i+1,none⟩) (l.length - (i+1)) (k - (i+1))) rfl (by kernel_rfl) (fun _ _ _ h=>h) (Or.inl ⟨by rfl,?yb6⟩) d ?restb6
     case yb6=>(intro u j;have bb:=Y.out;go_simp;first | done | (intro h;exfalso;omega))
     simp only [Act.put];refine iu (i:=7) rfl (by kernel_rfl) (by kernel_rfl) (by rfl) ?_;intro K7 I;have G:=ij I;clear I;go_simp;refine G.out _ _ trivial ?_;clear G;try simp only [Act.put,List.setIfInBounds_toArray]
     refine iu (i:=8) rfl (by kernel_rfl) (by kernel_rfl) (by rfl) ?_;intro K8 J;have H:=ij J;clear J;go_simp;refine(ox [l.take i,l.drop (i+1)] _ _ (sY (W:=t.drew) rfl V.out ll X.out ll) (by simp) (by simp;omega)).mono ?_;rintro e w6 ⟨tv,rfl,s,B⟩;have C:([l.take i,l.drop (i+1)]:List (List Int)).flatten=leftOut l i:=by simp [leftOut]
     rw [C]at s;refine H.out _ _ trivial ?_;clear H;try simp only [Act.put,List.setIfInBounds_toArray]
     refine iF rfl (by kernel_rfl) (by kernel_rfl) (by rfl) ?_;go_simp;go_wp2
     go_meet
     exact⟨iK s (by have:=x.out.size;have:=D.out.size;simp;omega),il lp B⟩
   case rest=>
   obtain⟨s,B⟩:=hcut;obtain⟨w6,aL⟩:∃ w6,w6=wc:=⟨_,rfl⟩;rw [<-aL]at s B ⊢;clear aL V;obtain⟨t1,t2,t3,rfl⟩:=iw s;have bg:=iB s;subst bg;have an:=ij s;have aX:=ij B;have E:Hid (z.grownBy w6 none):=il D.out B;have N:w6.heap[q.heap.size]?=some (.cells (resCl o (.slice x1 o.steps.length x3) (.slice y1 y2 y3)) 31 (0,0)):=by
    rw [E.out.block _ bf (by simp)];exact aT.out
   have k0:w6.cell? ⟨q.heap.size,0,none⟩=some (.int .i64 o.kind):=by simp only [World.cell?,N];rfl
   have k1:w6.cell? ⟨q.heap.size,1,none⟩=some (.int .i64 o.thread):=by simp only [World.cell?,N];rfl
   have k2:w6.cell? ⟨q.heap.size,2,none⟩=some (.int .i64 o.at_):=by simp only [World.cell?,N];rfl
   have a0:Hid (MachAt w6.drew.heap.size w6.drew m p):=(aZ.out.grown' x.out.size E.out).mono (Nat.le_trans x.out.size E.out.size);have aY:Hid (IntsAt w6.drew.heap.size w6.drew (.slice t1 (leftOut l i).length t3) (leftOut l i)):=iV an.out;have aw:(leftOut l i).length<=500:=by omega
   clear s B N;go_upto_region 8 with fail
   refine iz (fun u=>u.cell? ⟨q.heap.size,0,none⟩=some (.int .i64 o.kind)/\u.cell? ⟨q.heap.size,1,none⟩=some (.int .i64 o.thread)/\u.cell? ⟨q.heap.size,2,none⟩=some (.int .i64 o.at_)) 6 (by kernel_rfl) (by kernel_rfl) ⟨k0,k1,k2⟩ ?_;intro d;refine ie 0 ?vc0 rfl (by kernel_rfl) (fun _ _ _ h=>h) (by rfl) ?yc0 d ?_
   case yc0=>(rintro u ⟨R,S,T⟩;go_simp;try rfl)
   simp only [Act.put,List.setIfInBounds_toArray];refine ie 1 ?vc1 rfl (by kernel_rfl) (fun _ _ _ h=>h) (by rfl) ?yc1 d ?_
   case yc1=>(rintro u ⟨R,S,T⟩;go_simp;try rfl)
   simp only [Act.put];refine ie 4 ?vc4 rfl (by kernel_rfl) (fun _ _ _ h=>h) (by rfl) ?yc4 d ?_
   case yc4=>(rintro u ⟨R,S,T⟩;go_simp;try rfl)
   simp only [Act.put];refine ie 5 ?vc5 rfl (by kernel_rfl) (fun _ _ _ h=>h) (by rfl) ?yc5 d ?_
   case yc5=>(rintro u ⟨R,S,T⟩;go_simp;try rfl)
   simp only [Act.put];refine iu (i:=2) rfl (by kernel_rfl) (by kernel_rfl) (by rfl) ?_;intro K2 ax;have aj:=ij ax;clear ax;go_simp;refine(qo HP.out a0.out (Nat.le_refl _) aY.out aw).mono ?_;rintro e L ⟨rv7,rfl,⟨sv7,gv7,rfl,aJ,aI⟩,aB⟩;obtain⟨sa7,sb7,sc7,rfl⟩:=iw aJ;obtain⟨ra7,rb7,rc7,rfl⟩:=iw aI;clear aJ aI;have F:Hid (w6.grownBy L none):=qQ aB;have ac:L.cell? ⟨q.heap.size,0,none⟩=some (.int .i64 o.kind)/\L.cell? ⟨q.heap.size,1,none⟩=some (.int .i64 o.thread)/\L.cell? ⟨q.heap.size,2,none⟩=some (.int .i64 o.at_):=⟨ip F.out _ _ k0,ip F.out _ _ k1,ip F.out _ _ k2⟩;refine aj.out _ _ ac ?_;clear aj aB;try simp only [Act.put,List.setIfInBounds_toArray]
   refine ie 3 ?vd3 rfl (by kernel_rfl) (fun _ _ _ h=>h) (by rfl) ?yd3 ac ?_
   case yd3=>(rintro u ⟨R,S,T⟩;go_simp;try rfl)
   simp only [Act.put,List.setIfInBounds_toArray];refine iF rfl (by kernel_rfl) (by kernel_rfl) (by rfl) ?_;go_simp;refine(md (runS p (leftOut l i)) o L).mono ?_;rintro e w8 ⟨rfl,aC⟩;have M:Hid (w6.grownBy w8 none):=il F.out aC;clear aC d ac F k0 k1 k2;have q7:(u:Int)+1<=9223372036854775807:=by omega
   cases hlk:likeV (runS p (leftOut l i)) o
   ·have ab:Hid (shr p o (fuel.toNat - (u+1)) l (i+1) (u+1)=shr p o fuel.toNat (b.take f) 0 0):=by
     unfold Hid;rw [aq.out,hlk];simp
    clear hlk;go_wp2_with fail
    go_roundw
    case rel=>exact⟨l,i+1,u+1,by go_num,by go_num,be,by omega,by omega,iC (iC A.out aX.out (fun _ e=>by cases e)) M.out (fun _ e=>by cases e),il E.out M.out,ab⟩
    case measure=>simp [intOf];omega
   ·have ab:Hid (shr p o (fuel.toNat - (u+1)) (leftOut l i) 0 (u+1)=shr p o fuel.toNat (b.take f) 0 0):=by
     unfold Hid;rw [aq.out,hlk];simp
    clear hlk;go_wp2_with fail
    go_roundw
    case rel=>exact⟨leftOut l i,0,u+1,by go_num,rfl,aw,by omega,by omega,iC an.out M.out (fun _ e=>by cases e),il E.out M.out,ab⟩
    case measure=>simp [intOf];omega
  ·have HE:Hid (shr p o fuel.toNat (b.take f) 0 0=(l,u)):=by
    unfold Hid;rw [<-HS.out];cases hn:fuel.toNat - u with
    | zero=>rfl
    | succ n=>rw [shr,if_neg (fun h=>aD ⟨h,by omega⟩)]
   have af:Hid (shortS p b fuel.toNat=(l,u)):=by unfold Hid;rw [ap.out,HE.out]
   obtain⟨b1,b2,b3,rfl⟩:=iw A.out;have ba:=iB A.out;subst ba;by_cases P:i<l.length
   ·have q3:(i:Int)<l.length:=by omega
    have q4:fuel<=(u:Int):=by omega
    go_wp2_with fail
    rw [af.out];exact bodyPost_ret (v:= .tuple #[.slice b1 l.length b3,.int .i64 u]) (by simp [results,Tryz.results58,go_sem]) rfl ⟨_,rfl,A.out,il x.out D.out⟩
   ·have q3:(l.length:Int)<=(i:Int):=by omega
    go_wp2_with fail
    rw [af.out];exact bodyPost_ret (v:= .tuple #[.slice b1 l.length b3,.int .i64 u]) (by simp [results,Tryz.results58,go_sem]) rfl ⟨_,rfl,A.out,il x.out D.out⟩
end
section
open Go.RowKit
attribute [local go_sem] Go.World.cell?_alloc_some
def Shortened(p:List (List Ins))(s:List Int)(fuel:Int)(w:World)(e:Ending)(w':World):Prop:=
 w.grownBy w' none/\
 ((checkRunN p s=0/\0<=fuel/\∃ sv,e= .returned (.tuple #[sv,.int .i64 ((shortS p s fuel.toNat).2:Nat),.int .i64 0])/\w'.ownsRow w.heap.size 3 1 sv (shortS p s fuel.toNat).1.length (ints (shortS p s fuel.toNat).1))\/
  (checkRunN p s=0/\fuel<0/\e= .returned (.tuple #[.slice none 0 0,.int .i64 0,.int .i64 2]))\/
  (checkRunN p s≠0/\e= .returned (.tuple #[.slice none 0 0,.int .i64 0,.int .i64 (checkRunN p s)])))
theorem ou{p:List (List Ins)}{s:List Int}(a:checkRunN p s=0):vProg p=true/\s.length<=500:=by
 unfold checkRunN at a;by_cases b:vProg p=true
 ·by_cases c:s.length<=500
  ·exact⟨b,c⟩
  ·simp [b,c]at a
 ·simp [b]at a
theorem wY(p:List (List Ins))(s:List Int)(pv sv:Value)(fuel:Int)(w:World)(A:ShpAt w)(j:ProgAt w pv p)(i:IntsAt w.heap.size w sv s)(F:nilOk sv)(P:fuel<=9223372036854775807):
  Calls Tryz.prog 32 #[pv,sv,.int .i64 fuel] w (Shortened p s fuel w):=by
 have M:=ij A;have r:=ij j;have I:=ij i;have K:=ij F;obtain⟨u,x,rfl⟩:=j.form;obtain⟨so,sc,rfl⟩:=i.form;clear A j i F;go_enter Tryz.func32,Tryz.ntmps32
 go_wp2_with fail
 have k:∀ a b,w.grownBy ((w.alloc a).alloc b) none:=fun a b=>iq (iq (ir _ _))
 refine(la p [s] _ _ _ (M.out.pres (ip (k _ _))) (r.out.pres (ip (k _ _))) (ns (by simp)) (by simp)).mono ?_;rw [kQ];rintro e o ⟨rfl,l⟩;have f:Hid (w.grownBy o none):=il (k _ _) l;have B:o.heap[w.heap.size]?=some (.cells #[.slice u p.length x] 37 (0,0)):=by
  rw [l.block w.heap.size (by simp;omega) (by simp),Below.heap_alloc _ _ _ (by simp)];exact heap_alloc_new w _
 have c0:o.cell? ⟨w.heap.size,0,none⟩=some (.slice u p.length x):=by simp [World.cell?,B]
 clear B l;by_cases c:checkRunN p s=0
 ·have d:=ij c;obtain⟨G,N⟩:=ou c;have t:=ij G;rw [c];clear c G;by_cases O:fuel<0
  ·go_wp2_with fail
   exact bodyPost_ret (v:= .tuple #[.slice none 0 0,.int .i64 0,.int .i64 2]) (by simp [results,Tryz.results32,go_sem]) rfl ⟨f.out,Or.inr (Or.inl ⟨d.out,O,rfl⟩)⟩
  ·have C:0<=fuel:=by omega
   go_wp2_with fail
   refine(uV t.out (r.out.pres (ip f.out))).mono ?_;rintro e T ⟨m,rfl,z,D⟩;have J:=ij z;have h:Hid (w.grownBy T none):=il f.out D;clear z D c0;go_wp2_with fail
   refine(A6 t.out J.out ((I.out.pres (ip h.out)).mono h.out.size) K.out N C P).mono ?_;rintro e U ⟨rv,rfl,n,E⟩;obtain⟨Q,R,S,rfl⟩:=iw n;have L:=ij n;have H:Hid (w.grownBy U none):=il h.out E;clear n E;go_wp2_with fail
   exact bodyPost_ret (v:= .tuple #[.slice Q R S,.int .i64 ((shortS p s fuel.toNat).2:Nat),.int .i64 0]) (by simp [results,Tryz.results32,go_sem]) rfl ⟨H.out,Or.inl ⟨d.out,C,_,rfl,iK L.out h.out.size⟩⟩
 ·have d:=ij c;have hne:(checkRunN p s !=0)=true:=by simpa using c
  clear c;generalize y:checkRunN p s=e at*;have q:=ij y;clear y;go_wp2_with fail
  exact bodyPost_ret (v:= .tuple #[.slice none 0 0,.int .i64 0,.int .i64 e]) (by simp [results,Tryz.results32,go_sem]) rfl ⟨f.out,Or.inr (Or.inr ⟨by rw [q.out];exact d.out,by rw [q.out]⟩)⟩
end
end Go.Proofs.YtklenjmfalljgabGreatDoor
