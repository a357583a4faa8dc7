/- The texts Frq Svd Fhj Apn Cut Cct Sho Fld Shp Sht. -/
import Derived.Test.YtklenjmfalljgabGreatDoorM01
import Derived.Test.YtklenjmfalljgabGreatDoorM02
import Derived.Test.YtklenjmfalljgabGreatDoorM04
import Derived.Test.YtklenjmfalljgabGreatDoorM05
import Derived.Deep.AppendLies
import Derived.Maps.AppendAt
import Derived.Deep.DeepCutAuto
import Derived.Lib.AppendZeros
namespace Go.Proofs.YtklenjmfalljgabGreatDoor
set_option maxRecDepth 100000
set_option maxHeartbeats 8000000
section
def lX(a b:Out):Bool:=if a.kind=2 then b.kind==2 else (a.kind==b.kind && a.thread==b.thread && a.at_==b.at_)
def jc(l:List Int)(i:Nat):List Int:=l.take i++l.drop (i+1)
def ki(o:Out):Nat:=if o.kind=2 then o.steps.length+1 else o.steps.length
def shr(p:List (List Ins))(V:Out):Nat->List Int->Nat->Nat->List Int × Nat
 | 0,l,_,u=>(l,u)
 | n+1,l,i,u=>if i<l.length then (if lX (iJ p (jc l i)) V=true then shr p V n (jc l i) 0 (u+1) else shr p V n l (i+1) (u+1)) else (l,u)
def mi(p:List (List Ins))(s:List Int)(fuel:Nat):List Int × Nat:=shr p (iJ p s) fuel (s.take (ki (iJ p s))) 0 0
theorem oQ{l:List Int}{i:Nat}(h:i<l.length):(jc l i).length+1=l.length:=by
 unfold jc;simp;omega
section
variable {p : List (List Ins)} {V : Out}
theorem vm:∀ (n:Nat) (l:List Int) (i u:Nat),(shr p V n l i u).1.length<=l.length
 | 0,l,i,u=>Nat.le_refl _
 | n+1,l,i,u=>by
  unfold shr;split
  ·rename_i hi
   have:=oQ hi;split
   ·have:=vm n (jc l i) 0 (u+1);omega
   ·exact vm n l (i+1) (u+1)
  ·exact Nat.le_refl _
end
theorem zl(p:List (List Ins))(s:List Int):iJ p (s.take (ki (iJ p s)))=iJ p s/\ki (iJ p s)<=s.length:=by
 have hc:=nb p s 0 St.zero [];change ∃ xs a,RunE p St.zero xs a/\(iJ p s).steps=[]++xs.map Ev.pr/\(iJ p s).st=a/\((good xs/\xs.map Ev.tI=s/\(iJ p s).kind=jR p a/\(iJ p s).thread=0/\(iJ p s).at_=0)\/(good xs/\(∃ u r,s=xs.map Ev.tI++u::r/\mZ p a u=false)/\(iJ p s).kind=2/\(iJ p s).thread=0/\(iJ p s).at_=0+xs.length)\/(∃ ys z r,xs=ys++[z]/\good ys/\z.bad=true/\s=xs.map Ev.tI++r/\(iJ p s).kind=1/\(iJ p s).thread=z.tI/\(iJ p s).at_=z.k))at hc
 obtain⟨xs,a,h,c,i,hc⟩:=hc;rw [List.nil_append]at c;have d:(iJ p s).steps.length=xs.length:=by rw [c];simp
 have eq_of:∀ o:Out,o.steps=(iJ p s).steps->o.kind=(iJ p s).kind->o.thread=(iJ p s).thread->o.at_=(iJ p s).at_->o.st=(iJ p s).st->o=iJ p s:=by
  intro o t m j n l;cases o
  generalize iJ p s=q at*;cases q
  simp at*;exact⟨t,m,j,n,l⟩
 rcases hc with ⟨g1,g2,g3,g4,g5⟩ | ⟨g1,⟨u,r,g2,g2'⟩,g3,g4,g5⟩ | ⟨us,z,r,g1,g2,g3,g4,g5,g6,g7⟩
 ·have b:ki (iJ p s)=s.length:=by
   unfold ki;rw [if_neg (by have:=py p a;omega),d,<-g2];simp
  rw [b,List.take_length];exact⟨rfl,Nat.le_refl _⟩
 ·have b:ki (iJ p s)=xs.length+1:=by unfold ki;rw [if_pos g3,d]
  have f:s.take (xs.length+1)=xs.map Ev.tI++[u]:=by
   rw [g2,List.take_append,List.take_of_length_le (by simp)];simp
  rw [b,f];refine⟨?_,by rw [g2];simp⟩;have e:iJ p (xs.map Ev.tI++[u])=⟨xs.map Ev.pr,2,0,0+xs.length,a⟩:=by
   unfold iJ;rw [np p xs [u] 0 St.zero a [] g1 h,kq p u [] _ _ _ g2'];simp
  rw [e];exact eq_of _ c.symm g3.symm g4.symm g5.symm i.symm
 ·have b:ki (iJ p s)=xs.length:=by unfold ki;rw [if_neg (by omega),d]
  have f:s.take xs.length=xs.map Ev.tI:=by
   rw [g4,List.take_append,List.take_of_length_le (by simp)];simp
  rw [b,f];refine⟨?_,by rw [g4];simp⟩;subst g1;have e:iJ p ((us++[z]).map Ev.tI)=⟨(us++[z]).map Ev.pr,1,z.tI,z.k,a⟩:=by
   unfold iJ;rw [xL g2 g3 h];simp
  rw [e];exact eq_of _ c.symm g5.symm g6.symm g7.symm i.symm
end
section
open Go.RowKit
attribute [local go_sem] Go.World.cell?_alloc_some
def CY(o:Out):Value:= .agg #[.int .i64 o.kind,.int .i64 o.thread,.int .i64 o.at_]
theorem pq(a b:Out)(w:World):Calls Tryz.prog 59 #[CY a,CY b] w fun e w'=>e= .returned (.bool (lX a b))/\w.grownBy w' none:=by
 obtain⟨n,d,j,k,p⟩:=a;obtain⟨bs,f,m,l,o⟩:=b;unfold CY;simp only;have q:Hid (∀ x y,w.grownBy ((w.alloc x).alloc y) none):=fun x y=>ir (ir (iu _ _))
 by_cases c:d=2
 ·by_cases h:f=2
  ·have i:Hid (lX ⟨n,d,j,k,p⟩ ⟨bs,f,m,l,o⟩=true):=by unfold Hid lX;simp [c,h]
   subst c h;go_enter Tryz.func59,Tryz.ntmps59
   go_wp2_with fail
   go_ret;exact⟨by rw [i.out];rfl,q.out _ _⟩
  ·have i:Hid (lX ⟨n,d,j,k,p⟩ ⟨bs,f,m,l,o⟩=false):=by unfold Hid lX;simp [c,h]
   have hb:(f==2)=false:=by simpa using h
   subst c;clear h;go_enter Tryz.func59,Tryz.ntmps59
   go_wp2_with fail
   go_ret;exact⟨by rw [i.out];rfl,q.out _ _⟩
 ·have i:Hid (lX ⟨n,d,j,k,p⟩ ⟨bs,f,m,l,o⟩=(d==f && j==m && k==l)):=by unfold Hid lX;simp [c]
  have ha:(d==2)=false:=by simpa using c
  clear c;go_enter Tryz.func59,Tryz.ntmps59
  go_wp2_with fail
  all_goals (go_ret;refine⟨?_,q.out _ _⟩;rw [i.out];simp [*])
theorem Bj{W:World}{e c:Option Addr}{a b:List Int}{f d:Nat}{t:TypeId}{g:Nat}(i:W.heap.size=g):vr (W.alloc (.cells #[.slice e a.length f,.slice c b.length d] t)) (.slice (some ⟨g,0,none⟩) 2 2) [a,b]:=by
 subst i;have h:=heap_alloc_new W (.cells #[.slice e a.length f,.slice c b.length d] t);refine⟨W.heap.size,0,2,rfl,fun k hk=>?_⟩;have j:k=0\/k=1:=by simp at hk;omega
 rcases j with rfl | rfl
 ·exact⟨e,f,by simp only [World.cell?,h];rfl⟩
 ·exact⟨c,d,by simp only [World.cell?,h];rfl⟩
theorem wU{p:List (List Ins)}{a b:List Int}(d:iU p [a,b]=0):iV p=true/\a.length<=500/\b.length<=500:=by
 unfold iU at d;by_cases c:iV p=true
 ·by_cases e:a.length<=500
  ·by_cases f:b.length<=500
   ·exact⟨c,e,f⟩
   ·simp [c,e,f]at d
  ·simp [c,e]at d
 ·simp [c]at d
def rO(p:List (List Ins))(a b:List Int):Bool:=lX (iJ p a) (iJ p b) && (kx p (iJ p a)==kx p (iJ p b))
def Samed(p:List (List Ins))(a b:List Int)(w:World)(e:Ending)(w':World):Prop:=
 w.grownBy w' none/\((iU p [a,b]=0/\e= .returned (.tuple #[.bool (rO p a b),.int .i64 0]))\/(iU p [a,b]≠0/\e= .returned (.tuple #[.bool false,.int .i64 (iU p [a,b])])))
theorem DE(p:List (List Ins))(a b:List Int)(pv av bv:Value)(w:World)(hS:ShpAt w)(C:ProgAt w pv p)(hI:IntsAt w.heap.size w av a)(hJ:IntsAt w.heap.size w bv b):
  Calls Tryz.prog 34 #[pv,av,bv] w (Samed p a b w):=by
 have bg:=il hS;have HP:=il C;have HI:=il hI;have HJ:=il hJ;obtain⟨q,f,rfl⟩:=C.form;obtain⟨so,sc,rfl⟩:=hI.form;obtain⟨sp,sd,rfl⟩:=hJ.form;clear hS C hI hJ;go_enter Tryz.func34,Tryz.ntmps34
 go_wp2_with fail
 have ar:∀ x y,w.grownBy ((w.alloc x).alloc y) none:=fun x y=>ir (ir (iu _ _))
 refine(og p [a,b] _ _ _ (bg.out.pres (iq (ar _ _))) (HP.out.pres (iq (ar _ _))) (Bj (by simp)) (by simp)).mono ?_;rintro e w1 ⟨rfl,am⟩;have aF:Hid (w.grownBy w1 none):=ip (ar _ _) am;have t:w1.heap[w.heap.size]?=some (.cells #[.slice q p.length f] 37 (0,0)):=by
  rw [am.block w.heap.size (by simp;omega) (by simp),Below.heap_alloc _ _ _ (by simp)];exact heap_alloc_new w _
 have c0:w1.cell? ⟨w.heap.size,0,none⟩=some (.slice q p.length f):=by simp [World.cell?,t]
 clear t am;by_cases A:iU p [a,b]=0
 ·have R:=il A;obtain⟨hv,h5,h6⟩:=wU A;have F:=il hv;rw [A];clear A hv;go_wp2_with fail
  refine(zC F.out (HP.out.pres (iq aF.out))).mono ?_;rintro e w2 ⟨m,rfl,hM,N⟩;have HM:=il hM;have ak:Hid (w.grownBy w2 none):=ip aF.out N;have c2:=iq N _ _ c0;clear hM N c0;go_wp2_with fail
  refine(ur F.out HM.out (Nat.le_refl _) ((HI.out.pres (iq ak.out)).mono ak.out.size) h5).mono ?_;rintro e w3 ⟨rv,rfl,hR,O⟩;have bd:Hid (w.grownBy w3 none):=ip ak.out O;have HR:=il hR;have c3:=iq O _ _ c2;have bf:Hid (MachAt w2.heap.size w3 m p):=HM.out.grown' (Nat.le_refl _) O;have bE:=O.size;obtain⟨sv,gv,rfl,L,P⟩:=hR;obtain⟨x1,x2,x3,rfl⟩:=iy L;obtain⟨s,d,k,rfl⟩:=iy P;clear O c2 L P;have bt:Hid (IntsAt w2.heap.size w3 (.slice sp b.length sd) b):=(HJ.out.pres (iq bd.out)).mono ak.out.size;go_wp2_with fail
  refine(ur F.out bf.out bE bt.out h6).mono ?_;rintro e c ⟨rv,rfl,a6,aa⟩;have an:Hid (w.grownBy c none):=ip bd.out aa;have bu:=il aa;have aI:=il a6;have c4:=iq aa _ _ c3;obtain⟨sv,gv,rfl,L,P⟩:=a6;obtain⟨z1,o,j,rfl⟩:=iy L;obtain⟨n,r,l,rfl⟩:=iy P;clear aa c3 L P;have bz:=il (fun(w:World) (h:w3.grownBy w none) (C:ProgAt w (.agg #[.slice q p.length f]) p)=>oK F.out a h5 HR.out w h (.agg #[.slice q p.length f]) C);have bT:=il (fun(w:World) (h:c.grownBy w none) (C:ProgAt w (.agg #[.slice q p.length f]) p)=>oK F.out b h6 aI.out w h (.agg #[.slice q p.length f]) C);have aV:Hid (rO p a b=(lX (iJ p a) (iJ p b) && (kx p (iJ p a)==kx p (iJ p b)))):=rfl;have bi:Hid ((kx p (iJ p a)).length<=500):=by
   unfold Hid kx;rw [m9];obtain⟨xs,aK⟩:=nS F.out a;rw [aK.ev];have h1:=nT p a;rw [aK.st]at h1;simp at h1;omega
  clear HR aI;generalize bq:iJ p a=oa at*;generalize bx:iJ p b=ob at*;clear bq bx;go_upto_region 6 with fail
  have aE:Hid (((c.alloc (.cells #[.int .i64 oa.kind,.int .i64 oa.thread,.int .i64 oa.at_,.slice x1 x2 x3,.int .i64 (oa.st.vars 0),.int .i64 (oa.st.vars 1),.int .i64 (oa.st.vars 2),.int .i64 (oa.st.vars 3),.slice s d k] 31)).alloc (.cells #[.int .i64 ob.kind,.int .i64 ob.thread,.int .i64 ob.at_,.slice z1 o j,.int .i64 (ob.st.vars 0),.int .i64 (ob.st.vars 1),.int .i64 (ob.st.vars 2),.int .i64 (ob.st.vars 3),.slice n r l] 31)).heap[c.heap.size]?=some (.cells #[.int .i64 oa.kind,.int .i64 oa.thread,.int .i64 oa.at_,.slice x1 x2 x3,.int .i64 (oa.st.vars 0),.int .i64 (oa.st.vars 1),.int .i64 (oa.st.vars 2),.int .i64 (oa.st.vars 3),.slice s d k] 31)):=by
   unfold Hid;rw [Below.heap_alloc _ _ _ (by simp)];exact heap_alloc_new _ _
  have aC:Hid (((c.alloc (.cells #[.int .i64 oa.kind,.int .i64 oa.thread,.int .i64 oa.at_,.slice x1 x2 x3,.int .i64 (oa.st.vars 0),.int .i64 (oa.st.vars 1),.int .i64 (oa.st.vars 2),.int .i64 (oa.st.vars 3),.slice s d k] 31)).alloc (.cells #[.int .i64 ob.kind,.int .i64 ob.thread,.int .i64 ob.at_,.slice z1 o j,.int .i64 (ob.st.vars 0),.int .i64 (ob.st.vars 1),.int .i64 (ob.st.vars 2),.int .i64 (ob.st.vars 3),.slice n r l] 31)).heap[c.heap.size+1]?=some (.cells #[.int .i64 ob.kind,.int .i64 ob.thread,.int .i64 ob.at_,.slice z1 o j,.int .i64 (ob.st.vars 0),.int .i64 (ob.st.vars 1),.int .i64 (ob.st.vars 2),.int .i64 (ob.st.vars 3),.slice n r l] 31)):=by
   have:=heap_alloc_new (c.alloc (.cells #[.int .i64 oa.kind,.int .i64 oa.thread,.int .i64 oa.at_,.slice x1 x2 x3,.int .i64 (oa.st.vars 0),.int .i64 (oa.st.vars 1),.int .i64 (oa.st.vars 2),.int .i64 (oa.st.vars 3),.slice s d k] 31)) (.cells #[.int .i64 ob.kind,.int .i64 ob.thread,.int .i64 ob.at_,.slice z1 o j,.int .i64 (ob.st.vars 0),.int .i64 (ob.st.vars 1),.int .i64 (ob.st.vars 2),.int .i64 (ob.st.vars 3),.slice n r l] 31);unfold Hid;simpa using this
  have E:Hid (c.grownBy ((c.alloc (.cells #[.int .i64 oa.kind,.int .i64 oa.thread,.int .i64 oa.at_,.slice x1 x2 x3,.int .i64 (oa.st.vars 0),.int .i64 (oa.st.vars 1),.int .i64 (oa.st.vars 2),.int .i64 (oa.st.vars 3),.slice s d k] 31)).alloc (.cells #[.int .i64 ob.kind,.int .i64 ob.thread,.int .i64 ob.at_,.slice z1 o j,.int .i64 (ob.st.vars 0),.int .i64 (ob.st.vars 1),.int .i64 (ob.st.vars 2),.int .i64 (ob.st.vars 3),.slice n r l] 31)) none):=ir (ir (iu _ _));generalize (c.alloc (.cells #[.int .i64 oa.kind,.int .i64 oa.thread,.int .i64 oa.at_,.slice x1 x2 x3,.int .i64 (oa.st.vars 0),.int .i64 (oa.st.vars 1),.int .i64 (oa.st.vars 2),.int .i64 (oa.st.vars 3),.slice s d k] 31)).alloc (.cells #[.int .i64 ob.kind,.int .i64 ob.thread,.int .i64 ob.at_,.slice z1 o j,.int .i64 (ob.st.vars 0),.int .i64 (ob.st.vars 1),.int .i64 (ob.st.vars 2),.int .i64 (ob.st.vars 3),.slice n r l] 31)=w5 at*;have Q:Hid (∀ u,w5.grownBy u none->u.cell? ⟨w.heap.size,0,none⟩=some (.slice q p.length f)/\(u.cell? ⟨c.heap.size,0,none⟩=some (.int .i64 oa.kind)/\u.cell? ⟨c.heap.size,1,none⟩=some (.int .i64 oa.thread)/\u.cell? ⟨c.heap.size,2,none⟩=some (.int .i64 oa.at_)/\u.cell? ⟨c.heap.size,3,none⟩=some (.slice x1 x2 x3)/\u.cell? ⟨c.heap.size,4,none⟩=some (.int .i64 (oa.st.vars 0))/\u.cell? ⟨c.heap.size,5,none⟩=some (.int .i64 (oa.st.vars 1))/\u.cell? ⟨c.heap.size,6,none⟩=some (.int .i64 (oa.st.vars 2))/\u.cell? ⟨c.heap.size,7,none⟩=some (.int .i64 (oa.st.vars 3))/\u.cell? ⟨c.heap.size,8,none⟩=some (.slice s d k))/\(u.cell? ⟨c.heap.size+1,0,none⟩=some (.int .i64 ob.kind)/\u.cell? ⟨c.heap.size+1,1,none⟩=some (.int .i64 ob.thread)/\u.cell? ⟨c.heap.size+1,2,none⟩=some (.int .i64 ob.at_)/\u.cell? ⟨c.heap.size+1,3,none⟩=some (.slice z1 o j)/\u.cell? ⟨c.heap.size+1,4,none⟩=some (.int .i64 (ob.st.vars 0))/\u.cell? ⟨c.heap.size+1,5,none⟩=some (.int .i64 (ob.st.vars 1))/\u.cell? ⟨c.heap.size+1,6,none⟩=some (.int .i64 (ob.st.vars 2))/\u.cell? ⟨c.heap.size+1,7,none⟩=some (.int .i64 (ob.st.vars 3))/\u.cell? ⟨c.heap.size+1,8,none⟩=some (.slice n r l))):=fun u hu=>by
   have ka:u.heap[c.heap.size]?=some (.cells #[.int .i64 oa.kind,.int .i64 oa.thread,.int .i64 oa.at_,.slice x1 x2 x3,.int .i64 (oa.st.vars 0),.int .i64 (oa.st.vars 1),.int .i64 (oa.st.vars 2),.int .i64 (oa.st.vars 3),.slice s d k] 31):=by rw [hu.block _ (Array.getElem?_eq_some_iff.1 aE.out).1 (by simp)];exact aE.out
   have kb:u.heap[c.heap.size+1]?=some (.cells #[.int .i64 ob.kind,.int .i64 ob.thread,.int .i64 ob.at_,.slice z1 o j,.int .i64 (ob.st.vars 0),.int .i64 (ob.st.vars 1),.int .i64 (ob.st.vars 2),.int .i64 (ob.st.vars 3),.slice n r l] 31):=by rw [hu.block _ (Array.getElem?_eq_some_iff.1 aC.out).1 (by simp)];exact aC.out
   obtain⟨p0,p1,p2,p3,p4,p5,p6,p7,p8,_⟩:=kw ka;obtain⟨q0,q1,q2,q3,q4,q5,q6,q7,q8,_⟩:=kw kb;exact⟨iq (ip E.out hu) _ _ c4,⟨p0,p1,p2,p3,p4,p5,p6,p7,p8⟩,⟨q0,q1,q2,q3,q4,q5,q6,q7,q8⟩⟩
  have a8:Hid (∀ u,w5.grownBy u none->ProgAt u (.agg #[.slice q p.length f]) p):=fun u hu=>HP.out.pres (iq (ip an.out (ip E.out hu)))
  obtain⟨_,⟨K,D,G,_⟩,⟨t,I,J,_⟩⟩:=Q.out w5 (iu _ _);clear c4 aE aC;go_wp2_with fail
  refine(pq oa ob _).mono ?_;rintro e w6 ⟨rfl,aG⟩;have B:=il aG;have bV:Hid (w.grownBy w6 none):=ip an.out (ip E.out aG);clear aG K D G t I J;cases hlk:lX oa ob
  ·have H:Hid (rO p a b=false):=by unfold Hid;rw [aV.out,hlk];rfl
   clear hlk;go_wp2_with fail
   exact bodyPost_ret (v:= .tuple #[.bool false,.int .i64 0]) (by simp [results,Tryz.results34,go_sem]) rfl ⟨bV.out,Or.inl ⟨R.out,by rw [H.out]⟩⟩
  ·have H:Hid (rO p a b=(kx p oa==kx p ob)):=by unfold Hid;rw [aV.out,hlk];rfl
   clear hlk;have bW:=Q.out w6.drew (iz B.out);go_wp2_with fail
   refine iA (fun u=>u.cell? ⟨w.heap.size,0,none⟩=some (.slice q p.length f)/\(u.cell? ⟨c.heap.size,0,none⟩=some (.int .i64 oa.kind)/\u.cell? ⟨c.heap.size,1,none⟩=some (.int .i64 oa.thread)/\u.cell? ⟨c.heap.size,2,none⟩=some (.int .i64 oa.at_)/\u.cell? ⟨c.heap.size,3,none⟩=some (.slice x1 x2 x3)/\u.cell? ⟨c.heap.size,4,none⟩=some (.int .i64 (oa.st.vars 0))/\u.cell? ⟨c.heap.size,5,none⟩=some (.int .i64 (oa.st.vars 1))/\u.cell? ⟨c.heap.size,6,none⟩=some (.int .i64 (oa.st.vars 2))/\u.cell? ⟨c.heap.size,7,none⟩=some (.int .i64 (oa.st.vars 3))/\u.cell? ⟨c.heap.size,8,none⟩=some (.slice s d k))/\(u.cell? ⟨c.heap.size+1,0,none⟩=some (.int .i64 ob.kind)/\u.cell? ⟨c.heap.size+1,1,none⟩=some (.int .i64 ob.thread)/\u.cell? ⟨c.heap.size+1,2,none⟩=some (.int .i64 ob.at_)/\u.cell? ⟨c.heap.size+1,3,none⟩=some (.slice z1 o j)/\u.cell? ⟨c.heap.size+1,4,none⟩=some (.int .i64 (ob.st.vars 0))/\u.cell? ⟨c.heap.size+1,5,none⟩=some (.int .i64 (ob.st.vars 1))/\u.cell? ⟨c.heap.size+1,6,none⟩=some (.int .i64 (ob.st.vars 2))/\u.cell? ⟨c.heap.size+1,7,none⟩=some (.int .i64 (ob.st.vars 3))/\u.cell? ⟨c.heap.size+1,8,none⟩=some (.slice n r l))) 8 (by kernel_rfl) (by kernel_rfl) bW ?_;intro M;refine ij 0 ?va0 rfl (by kernel_rfl) (fun _ _ _ h=>h) (by rfl) ?ya0 M ?_
   case ya0=>(rintro u ⟨S,⟨K,D,G,X,U,Y,ae,al,af⟩,⟨t,I,J,ad,ah,Z,V,ac,ab⟩⟩;go_simp;try rfl)
   simp only [Act.put,List.setIfInBounds_toArray];refine ij 1 ?va1 rfl (by kernel_rfl) (fun _ _ _ h=>h) (by rfl) ?ya1 M ?_
   case ya1=>(rintro u ⟨S,⟨K,D,G,X,U,Y,ae,al,af⟩,⟨t,I,J,ad,ah,Z,V,ac,ab⟩⟩;go_simp;try rfl)
   simp only [Act.put];refine ij 3 ?va3 rfl (by kernel_rfl) (fun _ _ _ h=>h) (by rfl) ?ya3 M ?_
   case ya3=>(rintro u ⟨S,⟨K,D,G,X,U,Y,ae,al,af⟩,⟨t,I,J,ad,ah,Z,V,ac,ab⟩⟩;go_simp;try rfl)
   simp only [Act.put];refine ij 4 ?va4 rfl (by kernel_rfl) (fun _ _ _ h=>h) (by rfl) ?ya4 M ?_
   case ya4=>(rintro u ⟨S,⟨K,D,G,X,U,Y,ae,al,af⟩,⟨t,I,J,ad,ah,Z,V,ac,ab⟩⟩;go_simp;try rfl)
   simp only [Act.put];refine iw (i:=2) rfl (by kernel_rfl) (by kernel_rfl) (by rfl) ?_;intro K2 a4;have aW:=il a4;clear a4;go_simp;refine(bz.out _ (iz (ip bu.out (ip E.out B.out))) (a8.out _ (iz B.out))).mono ?_;rintro e w7 ⟨fa,rfl,W,aQ⟩;obtain⟨f1,f2,f3,rfl⟩:=iy W;have bp:=iC W;subst bp;have bc:=il (jz W);have ag:Hid (w6.grownBy w7 none):=oS aQ;have bb:=Q.out w7 (ip B.out ag.out);refine aW.out _ _ bb ?_;clear aW W aQ;try simp only [Act.put,List.setIfInBounds_toArray]
   refine iw (i:=5) rfl (by kernel_rfl) (by kernel_rfl) (by rfl) ?_;intro K5 aY;have aU:=il aY;clear aY;go_simp;refine(bT.out _ (ip E.out (ip B.out ag.out)) (a8.out _ (ip B.out ag.out))).mono ?_;rintro e w8 ⟨fb,rfl,T,aB⟩;obtain⟨g1,g2,g3,rfl⟩:=iy T;have N:=iC T;subst N;have bF:=il (jz T);have aS:=il aB;have ap:Hid (w5.grownBy w8 none):=ip B.out (ip ag.out aB);have aX:=Q.out w8 ap.out;refine aU.out _ _ aX ?_;clear aU T aB;try simp only [Act.put,List.setIfInBounds_toArray]
   refine iw (i:=6) rfl (by kernel_rfl) (by kernel_rfl) (by rfl) ?_;intro K6 aZ;have aT:=il aZ;clear aZ;go_simp;have bC:(kx p oa).length<=9223372036854775806:=by
    obtain⟨_,_,e,_⟩:=bc.out;have:=bi.out;omega
   refine(BH (kx p oa) (kx p ob) _ _ w8 ((bc.out.pres (iq aS.out)).mono aS.out.size) bF.out bC).mono ?_;rintro e w9 ⟨rfl,a9⟩;have aw:w8.grownBy w9 none:=iL a9;have br:Hid (w.grownBy w9 none):=ip (ip an.out E.out) (ip ap.out aw);have aD:=Q.out w9 (ip ap.out aw);refine aT.out _ _ aD ?_;clear aT a9 aw;try simp only [Act.put,List.setIfInBounds_toArray]
   refine ij 7 ?vb7 rfl (by kernel_rfl) (fun _ _ _ h=>h) (by rfl) ?yb7 aD ?_
   case yb7=>(rintro u ⟨S,⟨K,D,G,X,U,Y,ae,al,af⟩,⟨t,I,J,ad,ah,Z,V,ac,ab⟩⟩;go_simp;try rfl)
   simp only [Act.put,List.setIfInBounds_toArray];refine iI rfl (by kernel_rfl) (by kernel_rfl) (by rfl) ?_;go_simp;generalize hz:(kx p oa==kx p ob)=z at*;clear hz M bb aX aD;go_wp2_with fail
   exact bodyPost_ret (v:= .tuple #[.bool z,.int .i64 0]) (by simp [results,Tryz.results34,go_sem]) rfl ⟨br.out,Or.inl ⟨R.out,by rw [H.out]⟩⟩
 ·have R:=il A;have hne:(iU p [a,b] !=0)=true:=by simpa using A
  clear A;generalize hE:iU p [a,b]=e at*;have H:=il hE;clear hE;go_wp2_with fail
  exact bodyPost_ret (v:= .tuple #[.bool false,.int .i64 e]) (by simp [results,Tryz.results34,go_sem]) rfl ⟨aF.out,Or.inr ⟨by rw [H.out];exact R.out,by rw [H.out]⟩⟩
end
section
open Go.RowKit
section
variable {P : Program} {w : World} {ops : Array Oper} {rest : List Oper} {o : Oper} {a : Act} {Q : Exit -> Act -> World -> Prop}
theorem km(M:o.guard=none)(s x:Operand)(t:TypeId)(y:o.op= .call { callee:= .builtin .append,args:= #[s,x],argTypes:= #[t,t]})
  (base:Nat) (e:TypeId) (i:TypeInfo) (z:Value) (b l:Nat) (C:P.underlying t=some (.slice e)) (A:P.info? e=some i) (D:i.zero=some z) (S:i.size=b) (I:i.bytes=l) (R:z.cells.size=b) (H:0<b)
  (v:Value) (n:Nat) (xs:List Value) (r:a.eval s=v) (f:w.ownsRow base e b v n xs) (k:Option Addr) (m c:Nat) (d:List Value) (B:a.eval x= .slice k m c) (T:d.length=m*b)
  (J:k=none->m=0/\c=0) (O:∀ ad,k=some ad->∀ j u,d[j]?=some u->w.cell? (ad.add j)=some u) (F:∀ u∈d,u.oneCell'=true) (E:n+m<=maxLen) (U:(n+m)*l<=140737488355328) (L:base<=w.heap.size)
  (h:∀ ta tn tc w',w'.ownsRow base e b (.slice ta tn tc) (n+m) (xs++d)->w.grownBy w' v.ownBlock->wpList P ops Q rest (a.put o.dst (.slice ta tn tc)) w'):wpList P ops Q (o::rest) a w:=by
 refine wpList_plain M fun K hK=>?_
 cases k with
 | none=>
  obtain⟨rfl,rfl⟩:=J rfl;have p:=run_append_owned_none (P:=P) w base t o.type e i b C A v n xs f;have G:d=[]:=List.length_eq_zero_iff.1 (by omega);obtain⟨ta,tn,tc,rfl⟩:=iy f;unfold Oper.wp;simp [execOp,y,resolve,invoke,builtin,r,B,p,Result.andThen];exact hK _ _ (h _ _ _ w (by rw [G];simpa using f) (iu _ _))
 | some ad=>
  obtain⟨v',w',p,q,N,h4,h5⟩:=run_append_own_at (P:=P) w base t o.type e i z b l C A D S I R H v n xs f ad m c d T (O ad rfl) F E U L;obtain⟨ta,tn,tc,rfl⟩:=iy q;unfold Oper.wp;simp [execOp,y,resolve,invoke,builtin,r,B,p,Result.andThen];exact hK _ _ (h _ _ _ w' q N)
end
end
section
open Go.RowKit
attribute [local go_sem] Go.World.cell?_alloc_some se
end
section
open Go.RowKit
attribute [local go_sem] Go.World.cell?_alloc_some
theorem uu:((Tryz.prog.info? 3).map fun i=>(i.zero,i.size,i.bytes))=some (some (.int .i64 0),1,8):=by kernel_rfl
theorem FB(n:Nat)(w:World)(hn:n<=1000000):
  Calls Tryz.prog 131 #[.slice none 0 0,.int .i64 n] w fun e w'=>∃ v,e= .returned v/\w'.ownsRow w.heap.size 3 1 v 0 []/\w.grownBy w' none:=by
 obtain⟨c,h,b,hz1,f⟩:=info_parts uu;rcases Nat.eq_zero_or_pos n with e | h0
 ·subst e;go_enter Tryz.func131,Tryz.ntmps131
  go_wp2
  go_ret;exact⟨_,rfl,⟨rfl,Or.inl ⟨rfl,rfl⟩⟩,iu _ _⟩
 ·have d:∀ ty,(Builtin.append_ #[39,3] ty #[.slice none 0 0,.int .i64 (n:Int)]).run Tryz.prog w=_:=fun ty=>Lib.run_append_nil_zeros w 39 3 ty 3 c _ .i64 .i64 Tryz.underlying39 Tryz.underlying3 h b n h0 (by omega) (by omega) (by rw [f];omega)
  have hGn:n<=grownCap w n 0 3:=grownCap_ge w _ _ _;have a:grownCap w n 0 3<=maxLen:=grownCap_le_maxLen w n 0 3 (by unfold maxLen;omega);generalize grownCap w n 0 3=G at*;have i:Hid ((w.drew.alloc (.cells (Builtin.zeroCells (Value.int .i64 0).cells n++Builtin.zeroCells (Value.int .i64 0).cells (G - n)) 3)).ownsRow w.heap.size 3 1 (.slice (some ⟨w.heap.size,0,none⟩) 0 G) 0 []):=by
   refine⟨rfl,Or.inr ⟨w.heap.size,G,_,rfl,Nat.le_refl _,heap_alloc_new w.drew _,Nat.zero_le _,a,?_,by simp⟩⟩;simp [Builtin.zeroCells,Value.cells];omega
  have j:Hid (w.grownBy (w.drew.alloc (.cells (Builtin.zeroCells (Value.int .i64 0).cells n++Builtin.zeroCells (Value.int .i64 0).cells (G - n)) 3)) none):=⟨rfl,rfl,rfl,by simp,fun k hk _=>heap_alloc_old w.drew _ hk⟩;have h1:(0:Int)<(n:Int):=by omega
  have h2:(n:Int)<=1000000:=by omega
  have h3:(0:Int)<=(n:Int):=by omega
  generalize w.drew.alloc (.cells (Builtin.zeroCells (Value.int .i64 0).cells n++Builtin.zeroCells (Value.int .i64 0).cells (G - n)) 3)=w' at*;have h5:G<=9223372036854775807:=by unfold maxLen at a;omega
  clear a;go_enter Tryz.func131,Tryz.ntmps131
  go_wp2_with (at_builtin;refine Lib.wpList_append_run _ rfl _ _ _ _ rfl _ _ rfl rfl _ _ (d _) ?_)
  go_ret;exact⟨_,rfl,i.out,j.out⟩
def oC(x:Value):Prop:=∀ n c,x= .slice none n c->n=0/\c=0
def yi(w:World)(v:Value)(ss:List (List Int)):Prop:=
 ∃ g o cap,v= .slice (some ⟨g,o,none⟩) ss.length cap/\g<w.heap.size/\∀ k (hk:k<ss.length),∃ x,w.cell? ⟨g,o+k,none⟩=some x/\IntsAt w.heap.size w x ss[k]/\oC x
theorem ph(a:List (List Int))(k:Nat)(b:k<a.length):(a.take (k+1)).flatten=(a.take k).flatten++a[k]:=by
 rw [List.take_succ_eq_append_getElem b,List.flatten_append];simp
theorem uO(a:List (List Int))(k:Nat):(a.take k).flatten.length<=a.flatten.length:=by
 conv=>rhs;rw [<-List.take_append_drop k a,List.flatten_append,List.length_append]
 omega
theorem Ba{w:World}{g o c:Nat}{l:List Int}(h:IntsAt w.heap.size w (.slice (some ⟨g,o,none⟩) l.length c) l):∀ j u,(iM l)[j]?=some u->w.cell? ((⟨g,o,none⟩:Addr).add j)=some u:=by
 intro j u b;obtain⟨ao,cap,e,_,d⟩:=h;have a:=(List.getElem?_eq_some_iff.1 b).1;rw [j0]at a;obtain⟨g',o',k,e2,i⟩:=d j a;simp only [Value.slice.injEq]at e;rw [k]at e;simp only [Option.some.injEq,Addr.mk.injEq,and_true]at e;obtain⟨⟨rfl,rfl⟩,_⟩:=e;have f:(⟨g,o,none⟩:Addr).add j=⟨g,o+j,none⟩:=by unfold Addr.add;split<;>simp_all
 rw [f,i];have:(iM l)[j]?=some (.int .i64 l[j]):=by simp [iM,a]
 rw [this]at b;exact b
theorem sZ(a:List (List Int))(sv:Value)(w:World)(hR:yi w sv a)(hn:a.length<=1000)(ht:a.flatten.length<=1000000):
  Calls Tryz.prog 89 #[sv] w fun e w'=>∃ v,e= .returned v/\w'.ownsRow w.heap.size 3 1 v a.flatten.length (iM a.flatten)/\w.grownBy w' none:=by
 obtain⟨i0,S,ak,ab,U⟩:=info_parts uu;obtain⟨g,o,cap,rfl,hg,hc⟩:=hR;have G:=il hc;have hn':(a.length:Int)<=1000:=by omega
 clear hc;go_enter Tryz.func89,Tryz.ntmps89
 go_wp2_with fail
 go_loopw [3,11] (fun z i w'=>∃ k n:Nat,k<=a.length/\i= .int .i64 k/\z= .int .i64 n/\Hid (n=(a.take k).flatten.length)/\Hid (w'=w)) (fun _ i _=>a.length - (intOf i).toNat)
 case atStart=>exact⟨0,0,Nat.zero_le _,rfl,rfl,rfl,rfl⟩
 case round=>
  obtain⟨k,n,K,rfl,rfl,l,I⟩:=hrel;obtain rfl:=I.out.symm;clear I;have P:n<=1000000:=by have:=l.out;have:=uO a k;omega
  have Y:(n:Int)<=1000000:=by omega
  have aq:(0:Int)<=(n:Int):=by omega
  by_cases c:k<a.length
  ·obtain⟨x,c0,h,p⟩:=G.out k c;obtain⟨m,q,rfl⟩:=h.form;have aa:n+a[k].length<=1000000:=by
    have B:=uO a (k+1);rw [ph a k c,List.length_append]at B;have:=l.out;omega
   have t:Hid (n+a[k].length=(a.take (k+1)).flatten.length):=by
    unfold Hid;rw [ph a k c,List.length_append,l.out]
   clear h p;generalize a[k]=s at*;have hs0:(0:Int)<=(s.length:Int):=by omega
   have hs1:(n:Int)+(s.length:Int)<=1000000:=by omega
   have hs2:(0:Int)<=(n:Int)+(s.length:Int):=by omega
   have ap:(0:Int)<=(k:Int):=by omega
   have r:(k:Int)<a.length:=by omega
   go_wp2_with fail
   go_roundw
   case rel=>exact⟨k+1,n+s.length,by omega,by go_num,by go_num,t,(by first | exact trivial | rfl)⟩
   case measure=>simp [intOf];omega
  ·have r:(a.length:Int)<=(k:Int):=by omega
   have ai:Hid (n=a.flatten.length):=by unfold Hid;rw [l.out,List.take_of_length_le (by omega)]
   go_wp2_with (go_at_call 131;refine(FB n _ P).mono ?_;rintro e w1 ⟨v1,rfl,A,D⟩)
   obtain⟨a1,a2,a3,rfl⟩:=iy A;have M:=il A;have N:=il D;clear A D l ai P Y aq K c r;go_wp2_with fail
   go_loopw [6,27] (fun v i w'=>∃ k:Nat,k<=a.length/\i= .int .i64 k/\Hid (w'.ownsRow w.heap.size 3 1 v (a.take k).flatten.length (iM (a.take k).flatten))/\Hid (w.grownBy w' none)) (fun _ i _=>a.length - (intOf i).toNat)
   case atStart=>exact⟨0,Nat.zero_le _,rfl,M,N⟩
   case round=>
    clear M N;obtain⟨k,K,rfl,f,b⟩:=hrel;obtain⟨d,O⟩:∃ d,d=wr:=⟨_,rfl⟩;rw [<-O]at f b ⊢;clear O;by_cases c:k<a.length
    ·obtain⟨x,c0,h,p⟩:=G.out k c;obtain⟨m,q,rfl⟩:=h.form;have d0:=iq b.out _ _ c0;have aa:(a.take k).flatten.length+a[k].length<=1000000:=by
      have B:=uO a (k+1);rw [ph a k c,List.length_append]at B;omega
     have t:Hid ((a.take (k+1)).flatten=(a.take k).flatten++a[k]):=ph a k c;have C:Hid (IntsAt d.heap.size d (.slice m a[k].length q) a[k]):=(h.pres (iq b.out)).mono b.out.size;have Q:Hid (m=none->a[k].length=0/\q=0):=fun e=>p _ _ (by rw [e])
     have H:Hid (∀ y,m=some y->∀ j u,(iM a[k])[j]?=some u->d.cell? (y.add j)=some u):=by
      rintro y rfl j u F;have hl:=(List.getElem?_eq_some_iff.1 F).1;rw [j0]at hl;obtain⟨ao,cp,e,_,R⟩:=C.out;obtain⟨g',o',T,_⟩:=R 0 (by omega);simp only [Value.slice.injEq]at e;rw [T]at e;simp only [Option.some.injEq]at e;obtain⟨rfl,_⟩:=e;exact Ba C.out j u F
     clear c0 h p;generalize a[k]=s at*;obtain⟨b1,b2,b3,hv⟩:=iy f.out;have ap:(0:Int)<=(k:Int):=by omega
     have r:(k:Int)<a.length:=by omega
     have W:(iM s).length=s.length*1:=by rw [j0];omega
     have ae:(a.take k).flatten.length+s.length<=maxLen:=by unfold maxLen;omega
     have am:w.heap.size<=d.heap.size:=b.out.size;have al:=il (iB f.out);go_wp2_with (at_builtin;refine km rfl _ _ _ rfl w.heap.size 3 i0 _ 1 8 Tryz.underlying39 S ak ab U rfl (by omega) u6 (a.take k).flatten.length (iM (a.take k).flatten) rfl f.out m s.length q (iM s) rfl W Q.out H.out (oI _) ae (by omega) am ?_;intro ta tn Z E J L)
     have X:Hid (E.ownsRow w.heap.size 3 1 (.slice ta tn Z) (a.take (k+1)).flatten.length (iM (a.take (k+1)).flatten)):=by
      unfold Hid;rw [t.out,List.length_append]
      have:iM ((a.take k).flatten++s)=iM (a.take k).flatten++iM s:=by simp [iM]
      rw [this];exact J
     have V:Hid (w.grownBy E none):=jH b.out L al.out;clear J L f b t C Q H;go_wp2_with fail
     go_roundw
     case rel=>exact⟨k+1,by omega,by go_num,X,V⟩
     case measure=>simp [intOf];omega
    ·have r:(a.length:Int)<=(k:Int):=by omega
     have af:Hid (d.ownsRow w.heap.size 3 1 u6 a.flatten.length (iM a.flatten)):=by
      have:=f.out;rwa [List.take_of_length_le (by omega)]at this
     go_wp2_with fail
     go_ret;exact⟨_,rfl,af.out,b.out⟩
theorem CX{W:World}{x:Value}{l:List Int}{t:TypeId}{g:Nat}(c:W.heap.size=g)(h:IntsAt W.heap.size W x l)(b:oC x):yi (W.alloc (.cells #[x] t)) (.slice (some ⟨g,0,none⟩) 1 1) [l]:=by
 subst c;refine⟨W.heap.size,0,1,rfl,by simp,fun k hk=>⟨x,?_,?_,b⟩⟩
 ·have a:k=0:=by simp at hk;omega
  subst a;have h:=heap_alloc_new W (.cells #[x] t);simp only [World.cell?,h];rfl
 ·have a:k=0:=by simp at hk;omega
  subst a;exact(h.pres (iq (ir (iu _ _)))).mono (by simp)
theorem wE{W:World}{x y:Value}{l m:List Int}{t:TypeId}{g:Nat}(e:W.heap.size=g)(h:IntsAt W.heap.size W x l)(f:oC x)(d:IntsAt W.heap.size W y m)(c:oC y):yi (W.alloc (.cells #[x,y] t)) (.slice (some ⟨g,0,none⟩) 2 2) [l,m]:=by
 subst e;have a:=heap_alloc_new W (.cells #[x,y] t);have b:∀ {v:Value} {l:List Int},IntsAt W.heap.size W v l->IntsAt (W.alloc (.cells #[x,y] t)).heap.size (W.alloc (.cells #[x,y] t)) v l:=fun h=>(h.pres (iq (ir (iu _ _)))).mono (by simp)
 refine⟨W.heap.size,0,2,rfl,by simp,fun k hk=>?_⟩;have i:k=0\/k=1:=by simp at hk;omega
 rcases i with rfl | rfl
 ·exact⟨x,by simp only [World.cell?,a];rfl,b h,f⟩
 ·exact⟨y,by simp only [World.cell?,a];rfl,b d,c⟩
theorem MachAt.mono{B a:Nat}{w:World}{m:Nat}{p:List (List Ins)}(H:MachAt B w m p)(c:B<=a):MachAt a w m p:=by
 obtain⟨g,e,h1,h2,b,d⟩:=H;refine⟨g,e,by omega,by omega,b,fun t ht=>?_⟩;obtain⟨v,k1,k2⟩:=d t ht;exact⟨v,k1,k2.mono c⟩
theorem IntsAt.front{B:Nat}{w:World}{b:Option Addr}{d n:Nat}{l:List Int}(h:IntsAt B w (.slice b l.length d) l)(q:n<=l.length):IntsAt B w (.slice b n d) (l.take n):=by
 obtain⟨a,c,e,h1,f⟩:=h;simp only [Value.slice.injEq,true_and]at e;obtain⟨rfl,rfl⟩:=e;refine⟨b,d,by simp [Nat.min_eq_left q],by simp;omega,fun k hk=>?_⟩;have m:k<l.length:=by simp at hk;omega
 obtain⟨g,o,p,j,i⟩:=f k m;exact⟨g,o,p,j,by rw [List.getElem_take];exact i⟩
theorem xQ(o:Out)(w:World)(d k:Option Addr)(j i c:Nat)(f h l m:Int)(hl:o.steps.length<=1000):
  Calls Tryz.prog 90 #[.agg #[.int .i64 o.kind,.int .i64 o.thread,.int .i64 o.at_,.slice d o.steps.length j,.int .i64 f,.int .i64 h,.int .i64 l,.int .i64 m,.slice k i c]] w fun e w'=>e= .returned (.int .i64 (ki o))/\w.grownBy w' none:=by
 have hl':(o.steps.length:Int)<=1000:=by omega
 by_cases a:o.kind=2
 ·have b:Hid (((ki o:Nat):Int)=o.steps.length+1):=by unfold Hid ki;rw [if_pos a];simp
  rw [a];go_enter Tryz.func90,Tryz.ntmps90
  go_wp2_with fail
  go_ret;exact⟨by rw [b.out];first | rfl | go_num,ir (iu _ _)⟩
 ·have b:Hid (((ki o:Nat):Int)=o.steps.length):=by unfold Hid ki;rw [if_neg a]
  have hb:(o.kind==2)=false:=by simpa using a
  clear a;go_enter Tryz.func90,Tryz.ntmps90
  go_wp2_with fail
  go_ret;exact⟨by rw [b.out];first | rfl | go_num,ir (iu _ _)⟩
end
section
open Go.RowKit
theorem qF(k t a:Int)(sv b:Value)(c d e f:Value)(w:World):(Instr.field 31 (.agg #[.int .i64 k,.int .i64 t,.int .i64 a,sv,c,d,e,f,b]) 0).run Tryz.prog w= .ok (.agg #[.int .i64 k,.int .i64 t,.int .i64 a]) w:=by
 simp [Instr.field,run_underlying Tryz.underlying31,asAgg,part,Tryz.isAgg26,Tryz.sizeOf26]
end
section
open Go.RowKit
attribute [local go_sem] Go.World.cell?_alloc_some qF
theorem sE(p:List (List Ins))(l:List Int):(iJ p l).steps.length<=l.length:=by
 obtain⟨m,h1,h2,a,_⟩:=ow p l 0 St.zero [];unfold iJ;simp at a;omega
def Fa(o:Out)(sv gv:Value):Array Value:= #[.int .i64 o.kind,.int .i64 o.thread,.int .i64 o.at_,sv,.int .i64 (o.st.vars 0),.int .i64 (o.st.vars 1),.int .i64 (o.st.vars 2),.int .i64 (o.st.vars 3),gv]
theorem zi{B:Nat}{w:World}{g b i:Nat}{l:List Int}(h:IntsAt B w (.slice (some ⟨g,0,none⟩) l.length b) l)(hi:i<l.length):
  IntsAt B w (.slice (some ⟨g,i+1,none⟩) (l.length - (i+1)) (b - (i+1))) (l.drop (i+1)):=by
 obtain⟨a,c,e,h1,f⟩:=h;simp only [Value.slice.injEq,true_and]at e;obtain⟨rfl,rfl⟩:=e;refine⟨some ⟨g,i+1,none⟩,b - (i+1),by simp,by simp;omega,fun k hk=>?_⟩;have n:i+1+k<l.length:=by simp at hk;omega
 obtain⟨g',o',d,m,j⟩:=f (i+1+k) n;simp only [Option.some.injEq,Addr.mk.injEq,and_true]at d;obtain⟨rfl,rfl⟩:=d;refine⟨g,i+1,rfl,m,?_⟩;rw [List.getElem_drop];simpa using j
theorem oz{w:World}{o:Obj}:w.grownBy (w.drew.alloc o) none:=⟨rfl,rfl,rfl,by simp,fun k hk _=>heap_alloc_old w.drew _ hk⟩
theorem vH{w w':World}(h:w.drew.grownBy w' none):w.grownBy w' none:=⟨h.os,h.tape,h.output,h.size,h.block⟩
theorem Fk{B:Nat}{w:World}{a:Option Addr}{c:Nat}:IntsAt B w (.slice a 0 c) []:=⟨a,c,rfl,Nat.zero_le _,fun k hk=>by simp at hk⟩
theorem od{a:Addr}{n c:Nat}:oC (.slice (some a) n c):=fun n' c' e=>by simp at e
theorem Dw{m:Nat}{w:World}{p:List (List Ins)}{v:Value}{b:List Int}{fuel:Int}(hp:iV p=true)(hM:MachAt w.heap.size w m p)(M:IntsAt w.heap.size w v b)(aF:oC v)(aT:b.length<=500)
  (hf0:0<=fuel) (hf1:fuel<=9223372036854775807):
  Calls Tryz.prog 58 #[.pointer (some ⟨m,0,none⟩),v,.int .i64 fuel] w fun e w'=>∃ sv,e= .returned (.tuple #[sv,.int .i64 ((mi p b fuel.toNat).2:Nat)])/\w'.ownsRow w.heap.size 3 1 sv (mi p b fuel.toNat).1.length (iM (mi p b fuel.toNat).1)/\w.grownBy w' none:=by
 have HP:=il hp;have HM:=il hM;have HV:=il M;have HN:=il aF;obtain⟨so,H,rfl⟩:=M.form;have hcap:b.length<=H:=by
  obtain⟨a,c,e,h1,_⟩:=M;simp only [Value.slice.injEq]at e;omega
 clear hp hM M aF;have HC:=il (zl p b);go_enter Tryz.func58,Tryz.ntmps58
 go_wp2_with fail
 refine(ur HP.out HM.out (Nat.le_refl _) HV.out aT).mono ?_;rintro e k ⟨rv,rfl,⟨sv,gv,rfl,V,aN⟩,af⟩;obtain⟨x1,x2,x3,rfl⟩:=iy V;obtain⟨y1,y2,y3,rfl⟩:=iy aN;have bc:=iC V;subst bc;have aL:=il af;have hln:=sE p b;have hcl:=HC.out.2;have aj:Hid (∀ n,mi p b n=shr p (iJ p b) n (b.take (ki (iJ p b))) 0 0):=fun n=>rfl
 clear V aN af;generalize hO:iJ p b=o at*;clear hO;have bn:o.steps.length<=1000:=by omega
 have ec:∃ f:Nat,f=ki o:=⟨_,rfl⟩;obtain⟨f,ad⟩:=ec;rw [<-ad]at hcl aj;have bl:=il ad;clear ad;have c0:(f:Int)<=H:=by omega
 have c1:(0:Int)<=(f:Int):=by omega
 go_wp2_with (go_at_call 90;refine(xQ o _ _ _ _ _ _ _ _ _ _ bn).mono ?_;rintro e z ⟨rfl,Q⟩;rw [<-bl.out])
 have x:Hid (w.grownBy z none):=ip (ip aL.out (ir (iu _ _))) Q;have aX:k.heap.size<z.heap.size:=by have:=Q.size;simp at this;omega
 have a7:Hid (z.heap[k.heap.size]?=some (.cells (Fa o (.slice x1 o.steps.length x3) (.slice y1 y2 y3)) 31 (0,0))):=by
  unfold Hid;rw [Q.block _ (by simp) (by simp)];exact heap_alloc_new k _
 have bj:Hid (MachAt w.heap.size z m p):=HM.out.grown' (Nat.le_refl _) x.out;have aE:Hid (IntsAt z.heap.size z (.slice so f H) (b.take f)):=((HV.out.pres (iq x.out)).mono x.out.size).front hcl;have aC:Hid (oC (.slice so f H)):=fun n c e=>by
  simp only [Value.slice.injEq]at e;have:=HN.out b.length H (by rw [e.1]);omega
 clear Q aL;have C:([b.take f]:List (List Int)).flatten=b.take f:=by simp
 refine(sZ [b.take f] _ _ (CX rfl aE.out aC.out) (by simp) (by rw [C];simp;omega)).mono ?_;rintro e w3 ⟨sv3,rfl,S,aK⟩;rw [C]at S;obtain⟨z1,z2,z3,rfl⟩:=iy S;have ap:Hid (w3.ownsRow w.heap.size 3 1 (.slice z1 z2 z3) (b.take f).length (iM (b.take f))):=iR S (by have:=x.out.size;simp;omega);have aQ:Hid (z.grownBy w3 none):=ip (ir (iu _ _)) aK;have bo:(b.take f).length<=500:=by simp;omega
 clear S aK aE aC C;go_wp2_with fail
 go_loopw [9,10,11] (fun sv r iv w'=>∃ (l:List Int) (i u:Nat),r= .int .i64 u/\iv= .int .i64 i/\l.length<=500/\i<=l.length/\(u:Int)<=fuel/\Hid (w'.ownsRow w.heap.size 3 1 sv l.length (iM l))/\Hid (z.grownBy w' none)/\Hid (shr p o (fuel.toNat - u) l i u=shr p o fuel.toNat (b.take f) 0 0)) (fun _ r _ _=>fuel.toNat - (intOf r).toNat)
 case atStart=>exact⟨b.take f,0,0,rfl,rfl,bo,Nat.zero_le _,by omega,ap,aQ,rfl⟩
 case round=>
  clear ap aQ;obtain⟨l,i,u,rfl,rfl,bf,hil,j,A,D,HS⟩:=hrel;obtain⟨s,ay⟩:∃ s,s=wr:=⟨_,rfl⟩;rw [<-ay]at A D ⊢;clear ay;have q0:(0:Int)<=(i:Int):=by omega
  have q1:(0:Int)<=(u:Int):=by omega
  have q2:(l.length:Int)<=500:=by omega
  by_cases ax:i<l.length/\(u:Int)<fuel
  ·obtain⟨P,huf⟩:=ax;obtain⟨y,q,a5⟩:∃ y q,u9= .slice (some ⟨y,0,none⟩) l.length q:=by
    rcases A.out.2 with ⟨_,e⟩ | ⟨y,q,_,e,_⟩
    ·omega
    ·exact⟨y,q,e⟩
   subst a5;have Z:=il (jz A.out);have hcp:l.length<=q:=by
    obtain⟨a,c,e,h1,_⟩:=Z.out;simp only [Value.slice.injEq]at e;omega
   have q3:(i:Int)<l.length:=by omega
   have q4:(i:Int)<=q:=by omega
   have q5:(i:Int)+1<=l.length:=by omega
   have q6:(l.length:Int)<=q:=by omega
   have aI:fuel.toNat - u=(fuel.toNat - (u+1))+1:=by omega
   have aP:Hid (shr p o fuel.toNat (b.take f) 0 0=if lX (iJ p (jc l i)) o=true then shr p o (fuel.toNat - (u+1)) (jc l i) 0 (u+1) else shr p o (fuel.toNat - (u+1)) l (i+1) (u+1)):=by
    unfold Hid;rw [<-HS.out,aI,shr,if_pos P]
   have hll:=oQ P;clear HS aI;go_upto_region 7 with fail
   have HA:Hid (IntsAt s.drew.heap.size s.drew (.slice (some ⟨y,0,none⟩) i q) (l.take i)):=Z.out.front (by omega);go_cut [12] (fun tv w'=>Hid (w'.ownsRow w.heap.size 3 1 tv (jc l i).length (iM (jc l i))/\s.grownBy w' none))
   case first=>
    have al:IntKind.i64.wrap ((i:Int)+1)=(i:Int)+1:=by rw [IntKind.wrap_i64];omega
    have htn:((i:Int)+1).toNat=i+1:=by omega
    by_cases hsk:q - (i+1)=0
    ·have HD:Hid (IntsAt s.drew.heap.size s.drew (.slice (some ⟨y,0,none⟩) (l.length - (i+1)) 0) (l.drop (i+1))):=by
      have e1:l.drop (i+1)=[]:=List.drop_of_length_le (by omega);have e2:l.length - (i+1)=0:=by omega
      unfold Hid;rw [e1,e2];exact Fk
     have Y:Hid (q=i+1):=by unfold Hid;omega
     refine iA (fun _=>True) 9 (by kernel_rfl) (by kernel_rfl) trivial ?_;intro d;refine ij 0 ?va0 rfl (by kernel_rfl) (fun _ _ _ h=>h) (by rfl) ?ya0 d ?_
     case ya0=>(intro u j;go_simp;try rfl)
     simp only [Act.put,List.setIfInBounds_toArray];refine ij 1 ?va1 rfl (by kernel_rfl) (fun _ _ _ h=>h) (by rfl) ?ya1 d ?_
     case ya1=>(intro u j;go_simp;try rfl)
     simp only [Act.put];refine ij 2 ?va2 rfl (by kernel_rfl) (fun _ _ _ h=>h) (by rfl) ?ya2 d ?_
     case ya2=>(intro u j;go_simp;try rfl)
     simp only [Act.put];refine ij 3 ?va3 rfl (by kernel_rfl) (fun _ _ _ h=>h) (by rfl) ?ya3 d ?_
     case ya3=>(intro u j;go_simp;try rfl)
     simp only [Act.put];refine ij 4 ?va4 rfl (by kernel_rfl) (fun _ _ _ h=>h) (by rfl) ?ya4 d ?_
     case ya4=>(intro u j;go_simp;try rfl)
     simp only [Act.put];refine kG (i:=5) (v:= .int .i64 ((i:Int)+1)) rfl (by kernel_rfl) (fun _ _ _ h=>h) (Or.inl ⟨by rfl,?ya5⟩) d ?resta5
     case ya5=>(intro u j;go_simp;try rw [al])
     simp only [Act.put];refine kG (i:=6) (v:= .slice (some ⟨y,0,none⟩) (l.length - (i+1)) 0) rfl (by kernel_rfl) (fun _ _ _ h=>h) (Or.inl ⟨by rfl,?ya6⟩) d ?resta6
     case ya6=>(intro u j;have a8:=Y.out;go_simp;first | done | (intro h;exfalso;omega))
     simp only [Act.put];refine iw (i:=7) rfl (by kernel_rfl) (by kernel_rfl) (by rfl) ?_;intro K7 F;have G:=il F;clear F;go_simp;refine G.out _ _ trivial ?_;clear G;try simp only [Act.put,List.setIfInBounds_toArray]
     refine iw (i:=8) rfl (by kernel_rfl) (by kernel_rfl) (by rfl) ?_;intro K8 J;have I:=il J;clear J;go_simp;refine(sZ [l.take i,l.drop (i+1)] _ _ (wE (W:=s.drew) rfl HA.out od HD.out od) (by simp) (by simp;omega)).mono ?_;rintro e w6 ⟨tv,rfl,t,B⟩;have C:([l.take i,l.drop (i+1)]:List (List Int)).flatten=jc l i:=by simp [jc]
     rw [C]at t;refine I.out _ _ trivial ?_;clear I;try simp only [Act.put,List.setIfInBounds_toArray]
     refine iI rfl (by kernel_rfl) (by kernel_rfl) (by rfl) ?_;go_simp;go_wp2
     go_meet
     exact⟨iR t (by have:=x.out.size;have:=D.out.size;simp;omega),ip oz B⟩
    ·have HD:Hid (IntsAt s.drew.heap.size s.drew (.slice (some ⟨y,i+1,none⟩) (l.length - (i+1)) (q - (i+1))) (l.drop (i+1))):=zi Z.out P;have Y:Hid (¬q=i+1):=by unfold Hid;omega
     refine iA (fun _=>True) 9 (by kernel_rfl) (by kernel_rfl) trivial ?_;intro d;refine ij 0 ?vb0 rfl (by kernel_rfl) (fun _ _ _ h=>h) (by rfl) ?yb0 d ?_
     case yb0=>(intro u j;go_simp;try rfl)
     simp only [Act.put,List.setIfInBounds_toArray];refine ij 1 ?vb1 rfl (by kernel_rfl) (fun _ _ _ h=>h) (by rfl) ?yb1 d ?_
     case yb1=>(intro u j;go_simp;try rfl)
     simp only [Act.put];refine ij 2 ?vb2 rfl (by kernel_rfl) (fun _ _ _ h=>h) (by rfl) ?yb2 d ?_
     case yb2=>(intro u j;go_simp;try rfl)
     simp only [Act.put];refine ij 3 ?vb3 rfl (by kernel_rfl) (fun _ _ _ h=>h) (by rfl) ?yb3 d ?_
     case yb3=>(intro u j;go_simp;try rfl)
     simp only [Act.put];refine ij 4 ?vb4 rfl (by kernel_rfl) (fun _ _ _ h=>h) (by rfl) ?yb4 d ?_
     case yb4=>(intro u j;go_simp;try rfl)
     simp only [Act.put];refine kG (i:=5) (v:= .int .i64 ((i:Int)+1)) rfl (by kernel_rfl) (fun _ _ _ h=>h) (Or.inl ⟨by rfl,?yb5⟩) d ?restb5
     case yb5=>(intro u j;go_simp;try rw [al])
     simp only [Act.put];refine kG (i:=6) (v:= .slice (some ⟨y,i+1,none⟩) (l.length - (i+1)) (q - (i+1))) rfl (by kernel_rfl) (fun _ _ _ h=>h) (Or.inl ⟨by rfl,?yb6⟩) d ?restb6
     case yb6=>(intro u j;have a8:=Y.out;go_simp;first | done | (intro h;exfalso;omega))
     simp only [Act.put];refine iw (i:=7) rfl (by kernel_rfl) (by kernel_rfl) (by rfl) ?_;intro K7 F;have G:=il F;clear F;go_simp;refine G.out _ _ trivial ?_;clear G;try simp only [Act.put,List.setIfInBounds_toArray]
     refine iw (i:=8) rfl (by kernel_rfl) (by kernel_rfl) (by rfl) ?_;intro K8 J;have I:=il J;clear J;go_simp;refine(sZ [l.take i,l.drop (i+1)] _ _ (wE (W:=s.drew) rfl HA.out od HD.out od) (by simp) (by simp;omega)).mono ?_;rintro e w6 ⟨tv,rfl,t,B⟩;have C:([l.take i,l.drop (i+1)]:List (List Int)).flatten=jc l i:=by simp [jc]
     rw [C]at t;refine I.out _ _ trivial ?_;clear I;try simp only [Act.put,List.setIfInBounds_toArray]
     refine iI rfl (by kernel_rfl) (by kernel_rfl) (by rfl) ?_;go_simp;go_wp2
     go_meet
     exact⟨iR t (by have:=x.out.size;have:=D.out.size;simp;omega),ip oz B⟩
   case rest=>
   obtain⟨t,B⟩:=hcut;obtain⟨w6,ak⟩:∃ w6,w6=wc:=⟨_,rfl⟩;rw [<-ak]at t B ⊢;clear ak HA;obtain⟨t1,t2,t3,rfl⟩:=iy t;have ba:=iC t;subst ba;have aB:=il t;have a4:=il B;have K:Hid (z.grownBy w6 none):=ip D.out B;have O:w6.heap[k.heap.size]?=some (.cells (Fa o (.slice x1 o.steps.length x3) (.slice y1 y2 y3)) 31 (0,0)):=by
    rw [K.out.block _ aX (by simp)];exact a7.out
   have k0:w6.cell? ⟨k.heap.size,0,none⟩=some (.int .i64 o.kind):=by simp only [World.cell?,O];rfl
   have k1:w6.cell? ⟨k.heap.size,1,none⟩=some (.int .i64 o.thread):=by simp only [World.cell?,O];rfl
   have k2:w6.cell? ⟨k.heap.size,2,none⟩=some (.int .i64 o.at_):=by simp only [World.cell?,O];rfl
   have aV:Hid (MachAt w6.drew.heap.size w6.drew m p):=(bj.out.grown' x.out.size K.out).mono (Nat.le_trans x.out.size K.out.size);have a3:Hid (IntsAt w6.drew.heap.size w6.drew (.slice t1 (jc l i).length t3) (jc l i)):=jz aB.out;have ar:(jc l i).length<=500:=by omega
   clear t B O;go_upto_region 8 with fail
   refine iA (fun u=>u.cell? ⟨k.heap.size,0,none⟩=some (.int .i64 o.kind)/\u.cell? ⟨k.heap.size,1,none⟩=some (.int .i64 o.thread)/\u.cell? ⟨k.heap.size,2,none⟩=some (.int .i64 o.at_)) 6 (by kernel_rfl) (by kernel_rfl) ⟨k0,k1,k2⟩ ?_;intro d;refine ij 0 ?vc0 rfl (by kernel_rfl) (fun _ _ _ h=>h) (by rfl) ?yc0 d ?_
   case yc0=>(rintro u ⟨N,R,U⟩;go_simp;try rfl)
   simp only [Act.put,List.setIfInBounds_toArray];refine ij 1 ?vc1 rfl (by kernel_rfl) (fun _ _ _ h=>h) (by rfl) ?yc1 d ?_
   case yc1=>(rintro u ⟨N,R,U⟩;go_simp;try rfl)
   simp only [Act.put];refine ij 4 ?vc4 rfl (by kernel_rfl) (fun _ _ _ h=>h) (by rfl) ?yc4 d ?_
   case yc4=>(rintro u ⟨N,R,U⟩;go_simp;try rfl)
   simp only [Act.put];refine ij 5 ?vc5 rfl (by kernel_rfl) (fun _ _ _ h=>h) (by rfl) ?yc5 d ?_
   case yc5=>(rintro u ⟨N,R,U⟩;go_simp;try rfl)
   simp only [Act.put];refine iw (i:=2) rfl (by kernel_rfl) (by kernel_rfl) (by rfl) ?_;intro K2 aJ;have az:=il aJ;clear aJ;go_simp;refine(ur HP.out aV.out (Nat.le_refl _) a3.out ar).mono ?_;rintro e E ⟨rv7,rfl,⟨sv7,gv7,rfl,aG,ag⟩,av⟩;obtain⟨sa7,sb7,sc7,rfl⟩:=iy aG;obtain⟨ra7,rb7,rc7,rfl⟩:=iy ag;clear aG ag;have L:Hid (w6.grownBy E none):=vH av;have ae:E.cell? ⟨k.heap.size,0,none⟩=some (.int .i64 o.kind)/\E.cell? ⟨k.heap.size,1,none⟩=some (.int .i64 o.thread)/\E.cell? ⟨k.heap.size,2,none⟩=some (.int .i64 o.at_):=⟨iq L.out _ _ k0,iq L.out _ _ k1,iq L.out _ _ k2⟩;refine az.out _ _ ae ?_;clear az av;try simp only [Act.put,List.setIfInBounds_toArray]
   refine ij 3 ?vd3 rfl (by kernel_rfl) (fun _ _ _ h=>h) (by rfl) ?yd3 ae ?_
   case yd3=>(rintro u ⟨N,R,U⟩;go_simp;try rfl)
   simp only [Act.put,List.setIfInBounds_toArray];refine iI rfl (by kernel_rfl) (by kernel_rfl) (by rfl) ?_;go_simp;refine(pq (iJ p (jc l i)) o E).mono ?_;rintro e w8 ⟨rfl,aD⟩;have T:Hid (w6.grownBy w8 none):=ip L.out aD;clear aD d ae L k0 k1 k2;have q7:(u:Int)+1<=9223372036854775807:=by omega
   cases hlk:lX (iJ p (jc l i)) o
   ·have X:Hid (shr p o (fuel.toNat - (u+1)) l (i+1) (u+1)=shr p o fuel.toNat (b.take f) 0 0):=by
     unfold Hid;rw [aP.out,hlk];simp
    clear hlk;go_wp2_with fail
    go_roundw
    case rel=>exact⟨l,i+1,u+1,by go_num,by go_num,bf,by omega,by omega,iE (iE A.out a4.out (fun _ e=>by cases e)) T.out (fun _ e=>by cases e),ip K.out T.out,X⟩
    case measure=>simp [intOf];omega
   ·have X:Hid (shr p o (fuel.toNat - (u+1)) (jc l i) 0 (u+1)=shr p o fuel.toNat (b.take f) 0 0):=by
     unfold Hid;rw [aP.out,hlk];simp
    clear hlk;go_wp2_with fail
    go_roundw
    case rel=>exact⟨jc l i,0,u+1,by go_num,rfl,ar,by omega,by omega,iE aB.out T.out (fun _ e=>by cases e),ip K.out T.out,X⟩
    case measure=>simp [intOf];omega
  ·have HE:Hid (shr p o fuel.toNat (b.take f) 0 0=(l,u)):=by
    unfold Hid;rw [<-HS.out];cases hn:fuel.toNat - u with
    | zero=>rfl
    | succ n=>rw [shr,if_neg (fun h=>ax ⟨h,by omega⟩)]
   have ao:Hid (mi p b fuel.toNat=(l,u)):=by unfold Hid;rw [aj.out,HE.out]
   obtain⟨b1,b2,b3,rfl⟩:=iy A.out;have bg:=iC A.out;subst bg;by_cases P:i<l.length
   ·have q3:(i:Int)<l.length:=by omega
    have q4:fuel<=(u:Int):=by omega
    go_wp2_with fail
    rw [ao.out];exact bodyPost_ret (v:= .tuple #[.slice b1 l.length b3,.int .i64 u]) (by simp [results,Tryz.results58,go_sem]) rfl ⟨_,rfl,A.out,ip x.out D.out⟩
   ·have q3:(l.length:Int)<=(i:Int):=by omega
    go_wp2_with fail
    rw [ao.out];exact bodyPost_ret (v:= .tuple #[.slice b1 l.length b3,.int .i64 u]) (by simp [results,Tryz.results58,go_sem]) rfl ⟨_,rfl,A.out,ip x.out D.out⟩
end
section
open Go.RowKit
attribute [local go_sem] Go.World.cell?_alloc_some
def Shortened(p:List (List Ins))(s:List Int)(fuel:Int)(w:World)(e:Ending)(w':World):Prop:=
 w.grownBy w' none/\
 ((iD p s=0/\0<=fuel/\∃ sv,e= .returned (.tuple #[sv,.int .i64 ((mi p s fuel.toNat).2:Nat),.int .i64 0])/\w'.ownsRow w.heap.size 3 1 sv (mi p s fuel.toNat).1.length (iM (mi p s fuel.toNat).1))\/
  (iD p s=0/\fuel<0/\e= .returned (.tuple #[.slice none 0 0,.int .i64 0,.int .i64 2]))\/
  (iD p s≠0/\e= .returned (.tuple #[.slice none 0 0,.int .i64 0,.int .i64 (iD p s)])))
theorem tq{p:List (List Ins)}{s:List Int}(b:iD p s=0):iV p=true/\s.length<=500:=by
 unfold iD at b;by_cases a:iV p=true
 ·by_cases c:s.length<=500
  ·exact⟨a,c⟩
  ·simp [a,c]at b
 ·simp [a]at b
theorem AG(p:List (List Ins))(s:List Int)(pv sv:Value)(fuel:Int)(w:World)(C:ShpAt w)(l:ProgAt w pv p)(o:IntsAt w.heap.size w sv s)(D:oC sv)(T:fuel<=9223372036854775807):
  Calls Tryz.prog 32 #[pv,sv,.int .i64 fuel] w (Shortened p s fuel w):=by
 have I:=il C;have t:=il l;have O:=il o;have M:=il D;obtain⟨G,y,rfl⟩:=l.form;obtain⟨so,sc,rfl⟩:=o.form;clear C l o D;go_enter Tryz.func32,Tryz.ntmps32
 go_wp2_with fail
 have n:∀ a b,w.grownBy ((w.alloc a).alloc b) none:=fun a b=>ir (ir (iu _ _))
 refine(og p [s] _ _ _ (I.out.pres (iq (n _ _))) (t.out.pres (iq (n _ _))) (rs (by simp)) (by simp)).mono ?_;rw [nI];rintro e k ⟨rfl,i⟩;have d:Hid (w.grownBy k none):=ip (n _ _) i;have E:k.heap[w.heap.size]?=some (.cells #[.slice G p.length y] 37 (0,0)):=by
  rw [i.block w.heap.size (by simp;omega) (by simp),Below.heap_alloc _ _ _ (by simp)];exact heap_alloc_new w _
 have c0:k.cell? ⟨w.heap.size,0,none⟩=some (.slice G p.length y):=by simp [World.cell?,E]
 clear E i;by_cases c:iD p s=0
 ·have f:=il c;obtain⟨F,J⟩:=tq c;have z:=il F;rw [c];clear c F;by_cases K:fuel<0
  ·go_wp2_with fail
   exact bodyPost_ret (v:= .tuple #[.slice none 0 0,.int .i64 0,.int .i64 2]) (by simp [results,Tryz.results32,go_sem]) rfl ⟨d.out,Or.inr (Or.inl ⟨f.out,K,rfl⟩)⟩
  ·have B:0<=fuel:=by omega
   go_wp2_with fail
   refine(zC z.out (t.out.pres (iq d.out))).mono ?_;rintro e H ⟨m,rfl,A,u⟩;have R:=il A;have h:Hid (w.grownBy H none):=ip d.out u;clear A u c0;go_wp2_with fail
   refine(Dw z.out R.out ((O.out.pres (iq h.out)).mono h.out.size) M.out J B T).mono ?_;rintro e U ⟨rv,rfl,j,x⟩;obtain⟨P,L,S,rfl⟩:=iy j;have N:=il j;have Q:Hid (w.grownBy U none):=ip h.out x;clear j x;go_wp2_with fail
   exact bodyPost_ret (v:= .tuple #[.slice P L S,.int .i64 ((mi p s fuel.toNat).2:Nat),.int .i64 0]) (by simp [results,Tryz.results32,go_sem]) rfl ⟨Q.out,Or.inl ⟨f.out,B,_,rfl,iR N.out h.out.size⟩⟩
 ·have f:=il c;have hne:(iD p s !=0)=true:=by simpa using c
  clear c;generalize q:iD p s=e at*;have r:=il q;clear q;go_wp2_with fail
  exact bodyPost_ret (v:= .tuple #[.slice none 0 0,.int .i64 0,.int .i64 e]) (by simp [results,Tryz.results32,go_sem]) rfl ⟨d.out,Or.inr (Or.inr ⟨by rw [r.out];exact f.out,by rw [r.out]⟩)⟩
end
end Go.Proofs.YtklenjmfalljgabGreatDoor
