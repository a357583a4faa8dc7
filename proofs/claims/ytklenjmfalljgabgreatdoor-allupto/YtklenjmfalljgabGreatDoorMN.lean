/- The second form's card of All: where what is read is of bulk at most the bound, every call, one behind the other, and again, is as the reference says, whatever the owner does with what came out and with what was lent. -/
import Derived.Test.YtklenjmfalljgabGreatDoorMM
import Derived.Lib.SlBytesConst
import Derived.Test.YtklenjmfalljgabGreatDoorRows
import Derived.Deep.Slices
import Derived.Deep.DeepHandedRow
import Derived.Deep.DeepWitnessRowRef
import Derived.LaidMore
import Derived.Carry
import Derived.ProofKit
import Derived.OpenShut
import Derived.Lib.SmallJoins
import Derived.Deep.Strs
import Derived.Test.YtklenjmfalljgabGreatDoorCards
import Derived.Test.YtklenjmfalljgabGreatDoorTie
import Derived.ChangeMaps5
import Derived.Lib.LaidTab
namespace Go.Proofs.YtklenjmfalljgabGreatDoor
set_option maxRecDepth 100000
set_option maxHeartbeats 8000000
section
open Go.RowKit
attribute [local go_sem] Go.World.cell?_alloc_some
theorem oK{p:List (List Ins)}(h:iU p=true):p.length<=4/\∀ c∈p,c.length<=16:=by
 simp only [iU,Bool.and_eq_true,decide_eq_true_eq,List.all_eq_true]at h;refine⟨h.2.1,fun c hc=>?_⟩;have:=h.2.2 c hc;simp only [kT,Bool.and_eq_true,decide_eq_true_eq]at this;exact this.1
theorem nM{α:Type}(f:α->List Nat)(B:Nat)(q:List α)(h:∀ x∈q,(f x).length<=B):(q.flatMap f).length<=B*q.length:=by
 induction q with
 | nil=>simp
 | cons x q ih=>
  have h1:=h x (by simp);have h2:=ih (fun y hy=>h y (by simp [hy]));rw [List.flatMap_cons,List.length_append,List.length_cons,Nat.mul_succ];omega
theorem qZ{α:Type}(f:α->List Nat)(q:List α)(k:Nat)(h:k<q.length):(q.take (k+1)).flatMap f=(q.take k).flatMap f++f q[k]:=by
 rw [List.take_succ_eq_append_getElem h,List.flatMap_append];simp
theorem jL{n:Int}(h:n<=9223372036854775807):(jw n).length<=10:=mL (by omega)
theorem xK{i:Ins}(h:kR i):(mu i).length<=40:=by
 obtain⟨⟨a1,c⟩,⟨b1,b⟩,⟨c1,a⟩,⟨d1,d2⟩⟩:=h;unfold mu;have h1:=jL c;have h2:=jL b;have h3:=jL a;have h4:(jY (zig i.n)).length<=10:=mL (by unfold zig;split<;>omega);simp only [List.length_append];omega
theorem uo{c:List Ins}(h:c.length<=16)(a:∀ i∈c,kR i):(jS c).length<=650:=by
 unfold jS;have h1:=jL (n:=c.length) (by omega);have h2:=nM mu 40 c (fun i h=>xK (a i h));simp only [List.length_append];omega
theorem A2{p:List (List Ins)}(a:iU p=true)(b:∀ c∈p,∀ i∈c,kR i):(me p).length<=2610:=by
 obtain⟨h4,d⟩:=oK a;unfold me;have h1:=jL (n:=p.length) (by omega);have h2:=nM jS 650 p (fun c h=>uo (d c h) (b c h));simp only [List.length_append];omega
theorem zQ(W:World)(b:Nat)(p:List (List Ins))(pv:Value)(w:World)(s:Value)(l:List Nat)(h:WrS W w b s l)(hl:l.length<=900)(hP:ProgAt W pv p)(M:iU p=true)(V:∀ c∈p,∀ i∈c,kR i):
  Calls Tryz.prog 92 #[pt b,pv] w (uy W w b s (l++me p)):=by
 obtain⟨I,K,rfl,au⟩:=hP;have HH:=ij h;have HP:=ij au;have a9:pt b= .pointer (some ⟨b,0,none⟩):=rfl;rw [a9]at*;clear h au;go_enter Tryz.func92,Tryz.ntmps92
 go_wp2_with fail
 have r:=WrL.start HH.out 37 #[.slice I p.length K];have y:WrT w (w.alloc (.cells #[.slice I p.length K] 37)) b s s:=(WrT.refl _ _ _).grown (iq (ir _ _));generalize w.alloc (.cells #[.slice I p.length K] 37)=w1 at r y ⊢;have hp4:p.length<=4:=(oK M).1;refine(mh W b p.length (by omega) (by omega) w1 s l r.wr (by omega)).mono ?_;rintro e w2 ⟨⟨v2,rfl⟩,aZ,C,x⟩;have m:=r.call C x;have v:=y.trans x;have G:w2.cell? ⟨w.heap.size,0,none⟩=some (.slice I p.length K):=by simpa using m.cell 0
 have f:=ij m.wr;have j:=ij v;have HV:=ij (oK M).2;have HI:=ij V;clear m v r y C x M V;go_wp2_with fail
 clear G;go_loopw [16] (fun i w'=>∃ (t:Nat) (bv':Value),t<=p.length/\i= .int .i64 t/\Hid (WrS W w' b bv' (l++jw p.length++(p.take t).flatMap jS))/\Hid (WrT w w' b s bv')) (fun i _=>p.length - (intOf i).toNat)
 case atStart=>exact⟨0,aZ,Nat.zero_le _,rfl,ij (by simpa using f.out),j⟩
 case round=>
  clear f j;obtain⟨t,P,ht,rfl,d,q⟩:=hrel;obtain⟨H,aw⟩:∃ H,H=wr:=⟨_,rfl⟩;rw [<-aw]at d q ⊢;clear aw;by_cases L:t<p.length
  ·obtain⟨g,o,rfl,rv,c0,ba⟩:=HP.out t L;obtain⟨ca,cc,rfl,hC⟩:=ba;have U:=ip d.out.base _ _ c0;have HC:=ij hC;have q0:(0:Int)<=(t:Int):=by omega
   have q1:(t:Int)<p.length:=by omega
   have hc16:p[t].length<=16:=HV.out _ (List.getElem_mem L);have af:=ij (HI.out p[t] (List.getElem_mem L));have aQ:=ij (qZ jS p t L);have R:Hid ((l++jw p.length++(p.take t).flatMap jS).length<=4000):=by
    unfold Hid;have h1:=jL (n:=p.length) (by omega);have N:=nM jS 650 (p.take t) (fun c h=>uo (HV.out c (List.mem_of_mem_take h)) (HI.out c (List.mem_of_mem_take h)));simp only [List.length_append,List.length_take]at N ⊢;have h3:650*min t p.length<=650*4:=Nat.mul_le_mul_left _ (by omega);omega
   generalize ai:l++jw p.length++(p.take t).flatMap jS=l1 at d R ⊢;have aU:=ij ai;clear ai;generalize p[t]=c at*;clear c0 hC;go_wp2_with fail
   refine(mh W b c.length (by omega) (by omega) H P l1 d.out (by have:=R.out;omega)).mono ?_;rintro e w6 ⟨⟨v6,rfl⟩,aN,ab,ad⟩;have H6:=ij ab;have T6:=ij (q.out.trans ad);clear ab ad d q U;go_wp2_with fail
   go_loopw [26] (fun i w'=>∃ (k:Nat) (bv':Value),k<=c.length/\i= .int .i64 k/\Hid (WrS W w' b bv' (l1++jw c.length++(c.take k).flatMap mu))/\Hid (WrT w w' b s bv')) (fun i _=>c.length - (intOf i).toNat)
   case atStart=>exact⟨0,aN,Nat.zero_le _,rfl,ij (by simpa using H6.out),T6⟩
   case round=>
    clear H6 T6;obtain⟨k,J,hk,rfl,d,q⟩:=hrel;obtain⟨u,ax⟩:∃ u,u=wr:=⟨_,rfl⟩;rw [<-ax]at d q ⊢;clear ax;by_cases O:k<c.length
    ·obtain⟨g',o',rfl,c0,c1,G,c3⟩:=HC.out k O;have D:=ip d.out.base;have U:=D _ _ c0;have d1:=D _ _ c1;have d2:=D _ _ G;have d3:=D _ _ c3;have k0:(0:Int)<=(k:Int):=by omega
     have k1:(k:Int)<c.length:=by omega
     obtain⟨⟨a1,a2⟩,⟨b1,b2⟩,⟨e1,Y⟩,⟨n1,n2⟩⟩:=af.out c[k] (List.getElem_mem O);have aV:=ij (qZ mu c k O);have F:Hid ((l1++jw c.length++(c.take k).flatMap mu).length<=5000):=by
      unfold Hid;have h1:=jL (n:=c.length) (by omega);have N:=nM mu 40 (c.take k) (fun i h=>xK (af.out i (List.mem_of_mem_take h)));simp only [List.length_append,List.length_take]at N ⊢;have h3:40*min k c.length<=40*16:=Nat.mul_le_mul_left _ (by omega);have:=R.out;omega
     generalize ar:l1++jw c.length++(c.take k).flatMap mu=l2 at d F ⊢;have a6:=ij ar;clear ar;clear c0 c1 G c3 D;have hz:(c[k]:Ins)=⟨c[k].op,c[k].a,c[k].b,c[k].n⟩:=rfl;have HZ:Hid (mu c[k]=jw c[k].op++(jw c[k].a++(jw c[k].b++jY (zig c[k].n)))):=rfl;clear hz;generalize c[k].op=x0 at*;generalize c[k].a=x1 at*;generalize c[k].b=x2 at*;generalize c[k].n=x3 at*;have y0:=jL a2;have y1:=jL b2;have y2:=jL Y;go_wp2_with fail
     have r:=WrL.start d.out 65 #[.int .i64 x0,.int .i64 x1,.int .i64 x2,.int .i64 x3];have y:WrT w (u.alloc (.cells #[.int .i64 x0,.int .i64 x1,.int .i64 x2,.int .i64 x3] 65)) b s J:=q.out.grown (iq (ir _ _));clear U d1 d2 d3;generalize u.alloc (.cells #[.int .i64 x0,.int .i64 x1,.int .i64 x2,.int .i64 x3] 65)=u0 at r y ⊢;refine(mh W b x0 a1 a2 u0 J l2 r.wr (by have:=F.out;omega)).mono ?_;rintro e X ⟨⟨v1,rfl⟩,aO,aq,T⟩;have z:=r.call aq T;have B:=y.trans T;have m1:X.cell? ⟨u.heap.size,1,none⟩=some (.int .i64 x1):=by simpa using z.cell 1
     have f:=ij z;have j:=ij B;clear z B r y aq T d q;go_wp2_with fail
     have z:=f.out;have B:=j.out;clear f j m1;refine(mh W b x1 b1 b2 X aO (l2++jw x0) z.wr (by have:=F.out;simp only [List.length_append];omega)).mono ?_;rintro e u2 ⟨⟨v2,rfl⟩,aJ,C,x⟩;have m:=z.call C x;have v:=B.trans x;have m2:u2.cell? ⟨u.heap.size,2,none⟩=some (.int .i64 x2):=by simpa using m.cell 2
     have f:=ij m;have j:=ij v;clear m v z B C x;go_wp2_with fail
     have m:=f.out;have v:=j.out;clear f j m2;refine(mh W b x2 e1 Y u2 aJ (l2++jw x0++jw x1) m.wr (by have:=F.out;simp only [List.length_append];omega)).mono ?_;rintro e u3 ⟨⟨v3,rfl⟩,aK,Z,S⟩;have A:=m.call Z S;have E:=v.trans S;have m3:u3.cell? ⟨u.heap.size,3,none⟩=some (.int .i64 x3):=by simpa using A.cell 3
     have f:=ij A;have j:=ij E;clear A E m v Z S;go_wp2_with fail
     have A:=f.out;have E:=j.out;clear f j m3;refine(BP W b x3 n1 n2 u3 aK (l2++jw x0++jw x1++jw x2) A.wr (by have:=F.out;simp only [List.length_append];omega)).mono ?_;rintro e u4 ⟨⟨v4,rfl⟩,av,aa,ak⟩;have T4:=ij (E.trans ak);have S4:Hid (WrS W u4 b av (l1++jw c.length++(c.take (k+1)).flatMap mu)):=by
      unfold Hid;rw [aV.out,HZ.out,<-List.append_assoc (l1++jw c.length),a6.out];simpa [List.append_assoc]using aa
     clear A E aa ak;go_wp2_with fail
     go_roundw
     case rel=>exact⟨k+1,av,by omega,by first | rfl | go_num,S4,T4⟩
     case measure=>simp [intOf];omega
    ·have k1:¬(k:Int)<c.length:=by omega
     have ac:k=c.length:=by omega
     have Q:Hid (WrS W u b J (l++jw p.length++(p.take (t+1)).flatMap jS)):=by
      unfold Hid;rw [aQ.out,<-List.append_assoc (l++jw p.length),aU.out];have:=d.out;rw [ac,List.take_length]at this;simpa [jS,List.append_assoc]using this
     clear ac;go_wp2_with fail
     go_roundw
     case rel=>exact⟨t+1,J,by omega,by first | rfl | go_num,Q,q⟩
     case measure=>simp [intOf];omega
  ·have q1:¬(t:Int)<p.length:=by omega
   have an:t=p.length:=by omega
   have Q:Hid (WrS W H b P (l++me p)):=by
    unfold Hid me;have:=d.out;rw [an,List.take_length]at this;simpa [List.append_assoc]using this
   clear an;go_wp2_with fail
   go_end0
   exact⟨⟨_,rfl⟩,P,Q.out,q.out⟩
theorem wE{x:Int × Int}(h:0<=x.1/\x.1<=63/\1<=x.2/\x.2<=500):(lQ x).length<=20:=by
 unfold lQ;have h1:=jL (n:=x.1) (by omega);have h2:=jL (n:=x.2) (by omega);simp only [List.length_append];omega
theorem rr{s:List Int}(h:jc s=true):s.length<=500:=by
 simp only [jc,Bool.and_eq_true,decide_eq_true_eq]at h;exact h.1
theorem Cd{s:List Int}(h:jc s=true):(mD s).length<=10010:=by
 unfold mD;have h0:=rr h;have h3:=pn s;have h1:=jL (n:=(grp s).length) (by omega);have h2:=nM lQ 20 (grp s) (fun x hx=>wE (qL h x hx));have h4:20*(grp s).length<=20*500:=Nat.mul_le_mul_left _ (by omega);simp only [List.length_append];omega
theorem x7(W:World)(b:Nat)(s:List Int)(sv:Value)(w:World)(c:Value)(l:List Nat)(h:WrS W w b c l)(hl:l.length<=5000)(D:IntsAt W.heap.size W sv s)(t:jc s=true):
  Calls Tryz.prog 93 #[pt b,sv] w (uy W w b c (l++mD s)):=by
 have G:=ij h;have N:=ij (F0 s sv w ((D.pres (ip h.base)).mono h.base.size) (rr t));have R:=ij (qL t);have hq5:(grp s).length<=500:=by have:=pn s;have:=rr t;omega
 obtain⟨sa,sc,rfl⟩:=D.form;have Z:pt b= .pointer (some ⟨b,0,none⟩):=rfl;rw [Z]at*;unfold mD;generalize grp s=q at*;clear h D t Z;go_enter Tryz.func93,Tryz.ntmps93
 go_wp2_with fail
 refine N.out.mono ?_;rintro e d ⟨r1,r2,r3,rfl,v,y⟩;have al:=iB v;subst al;have H:=ij v;have ac:=ij (G.out.grown y);have aw:=ij ((WrT.refl w b c).grown y);have HZ:Hid (w.heap.size<=d.heap.size):=y.size;have ab:Hid (∀ k,r1=some k->k.block≠b/\c.ownBlock≠some k.block):=by
  intro k U;have h1:=iA v k.block (by rw [U];rfl);have I:=G.out.lt;refine⟨by omega,fun e=>?_⟩;have:=G.out.row.lt _ e;omega
 clear v y N;go_wp2_with fail
 refine(mh W b q.length (by omega) (by omega) d c l ac.out (by omega)).mono ?_;rintro e w2 ⟨⟨v2,rfl⟩,an,o,j⟩;have Q:=ij o;have L:=ij j;clear o j;go_wp2_with fail
 go_loopw [15] (fun i w'=>∃ (k:Nat) (bv':Value),k<=q.length/\i= .int .i64 k/\Hid (WrS W w' b bv' (l++jw q.length++(q.take k).flatMap lQ))/\Hid (WrT d w' b c bv')) (fun i _=>q.length - (intOf i).toNat)
 case atStart=>exact⟨0,an,Nat.zero_le _,rfl,ij (by simpa using Q.out),L⟩
 case round=>
  clear Q L;obtain⟨k,u,U,rfl,p,r⟩:=hrel;obtain⟨a,Y⟩:∃ a,a=wr:=⟨_,rfl⟩;rw [<-Y]at p r ⊢;clear Y;by_cases A:k<q.length
  ·obtain⟨g,cap,X,hgb,ai⟩:=H.out.form (by omega);simp only [Value.slice.injEq,true_and]at X;obtain⟨rfl,rfl⟩:=X;obtain⟨K,f1⟩:=zo q k A;have B:=ab.out ⟨g,0,none⟩ rfl;have z:a.heap[g]?=d.heap[g]?:=r.out.keep g ai B.1 B.2;have ar:=AG q;have d0:a.cell? ⟨g,k*2,none⟩=some (.int .i64 q[k].1):=by
    rw [World.cell?_of_block (w:=d) z,H.out.cellAt _ (by omega)];exact K
   have d1:a.cell? ⟨g,k*2+1,none⟩=some (.int .i64 q[k].2):=by
    rw [World.cell?_of_block (w:=d) z,H.out.cellAt _ (by omega)];exact f1
   have k0:(0:Int)<=(k:Int):=by omega
   have k1:(k:Int)<q.length:=by omega
   obtain⟨a1,a2,b1,b2⟩:=R.out q[k] (List.getElem_mem A);have ak:=ij (qZ lQ q k A);have F:Hid ((l++jw q.length++(q.take k).flatMap lQ).length<=20000):=by
    unfold Hid;have h1:=jL (n:=q.length) (by omega);have I:=nM lQ 20 (q.take k) (fun i h=>wE (R.out i (List.mem_of_mem_take h)));simp only [List.length_append,List.length_take]at I ⊢;have h3:20*min k q.length<=20*500:=Nat.mul_le_mul_left _ (by omega);omega
   generalize T:l++jw q.length++(q.take k).flatMap lQ=l2 at p F ⊢;have aq:=ij T;have ae:Hid (lQ q[k]=jw q[k].1++jw q[k].2):=rfl;clear T K f1 B z ar;generalize q[k].1=x0 at*;generalize q[k].2=x1 at*;have y0:=jL (n:=x0) (by omega);go_wp2_with fail
   have x:=WrL.start p.out 187 #[.int .i64 x0,.int .i64 x1];have C:WrT d (a.alloc (.cells #[.int .i64 x0,.int .i64 x1] 187)) b c u:=r.out.grown (iq (ir _ _));clear d0 d1;generalize a.alloc (.cells #[.int .i64 x0,.int .i64 x1] 187)=u0 at x C ⊢;refine(mh W b x0 a1 (by omega) u0 u l2 x.wr (by have:=F.out;omega)).mono ?_;rintro e J ⟨⟨v1,rfl⟩,af,S,E⟩;have f:=x.call S E;have m:=C.trans E;have m1:J.cell? ⟨a.heap.size,1,none⟩=some (.int .i64 x1):=by simpa using f.cell 1
   have P:=ij f;have V:=ij m;clear f m x C S E p r;go_wp2_with fail
   have f:=P.out;have m:=V.out;clear P V m1;refine(mh W b x1 (by omega) (by omega) J af (l2++jw x0) f.wr (by have:=F.out;simp only [List.length_append];omega)).mono ?_;rintro e u2 ⟨⟨v2,rfl⟩,O,o,j⟩;have T4:=ij (m.trans j);have S4:Hid (WrS W u2 b O (l++jw q.length++(q.take (k+1)).flatMap lQ)):=by
    unfold Hid;rw [ak.out,ae.out,<-List.append_assoc (l++jw q.length),aq.out];simpa [List.append_assoc]using o
   clear f m o j;go_wp2_with fail
   go_roundw
   case rel=>exact⟨k+1,O,by omega,by first | rfl | go_num,S4,T4⟩
   case measure=>simp [intOf];omega
  ·have k1:¬(k:Int)<q.length:=by omega
   have M:k=q.length:=by omega
   have S5:Hid (WrS W a b u (l++(jw q.length++q.flatMap lQ))):=by
    unfold Hid;have:=p.out;rw [M,List.take_length]at this;simpa [List.append_assoc]using this
   clear M;go_wp2_with fail
   go_end0
   exact⟨⟨_,rfl⟩,u,S5.out,aw.out.trans r.out⟩
theorem lh(n:Int):∀ x∈jw n,x<256:=k8 _
theorem sX{α:Type}(f:α->List Nat)(q:List α)(h:∀ y∈q,∀ x∈f y,x<256):∀ x∈q.flatMap f,x<256:=by
 intro x a;obtain⟨y,b,a⟩:=List.mem_flatMap.1 a;exact h y b x a
theorem lK{a b:List Nat}(e:∀ x∈a,x<256)(d:∀ x∈b,x<256):∀ x∈a++b,x<256:=by
 intro x c;rcases List.mem_append.1 c with h | h
 ·exact e x h
 ·exact d x h
theorem Bm(a:Art):∀ x∈mM a,x<256:=by
 unfold mM me mD mJ;refine lK (by decide) (lK (lK (lh _) (sX _ _ fun c _=>?_)) (lK (lK (lh _) (sX _ _ fun r _=>?_)) (lK (lh _) (lK (lh _) (lh _)))))
 ·unfold jS;refine lK (lh _) (sX _ _ fun i _=>?_);unfold mu;exact lK (lh _) (lK (lh _) (lK (lh _) (k8 _)))
 ·unfold lQ;exact lK (lh _) (lh _)
theorem E1(a:Art)(tv sv:Value)(w:World)(D:ProgAt w (.agg #[tv]) a.prog)(B:IntsAt w.heap.size w sv a.sch)(z:jI a=0)(A:∀ c∈a.prog,∀ i∈c,kR i):
  Calls Tryz.prog 64 #[pK tv sv a.ver] w fun e w'=>e= .returned (.string (bs (mN a)))/\w.grownBy w' none:=by
 have t:iU a.prog=true:=by
  unfold jI at z;split at z<;>simp_all
 have y:jc a.sch=true/\kG a.ver=true:=by
  rw [jI,if_pos t]at z;split at z<;>simp_all
 have L:Hid (mN a=[82,82,1]++me a.prog++mD a.sch++mJ a.ver++leB 4 (lz ([82,82,1]++me a.prog++mD a.sch++mJ a.ver))):=by
  unfold Hid mN mM;simp [List.append_assoc]
 have X:Hid (∀ x∈[82,82,1]++me a.prog++mD a.sch++mJ a.ver,x<256):=by
  have:=Bm a;unfold Hid;unfold mM at this;simpa [List.append_assoc]using this
 generalize mN a=E at*;obtain⟨p,l,d,h,f⟩:=a;simp only at D B A t y L X ⊢;have Y:=y.2;simp only [kG,Bool.and_eq_true,decide_eq_true_eq]at Y;have H:=ij (A2 t A);have Q:=ij (Cd y.1);have J:=ij D;have T:=ij B;have an:=ij t;have ag:=ij y.1;have HI:=ij A;obtain⟨o,m,v⟩:=D.form;simp only [Value.agg.injEq,Array.mk.injEq,List.cons.injEq,and_true]at v;subst v;obtain⟨k,j,rfl⟩:=B.form;clear D B z A t y;unfold pK;simp only;have U:=Lib.run_convert_bytes_const (P:=Tryz.prog) (w.alloc (.cells #[.slice o p.length m,.slice k l.length j,.int .i64 d,.int .i64 h,.int .i64 f] 56)) 147 5 #[.int .u8 82,.int .u8 82,.int .u8 1] 3 3 Tryz.underlying147 Tryz.underlying5;have M:(w.alloc (.cells #[.slice o p.length m,.slice k l.length j,.int .i64 d,.int .i64 h,.int .i64 f] 56)).heap.size=w.heap.size+1:=by simp
 rw [M]at U;go_enter Tryz.func64,Tryz.ntmps64
 go_wp2_with fail
 clear U M;have s:w.grownBy (w.alloc (.cells #[.slice o p.length m,.slice k l.length j,.int .i64 d,.int .i64 h,.int .i64 f] 56)) none:=iq (ir _ _);have q:=heap_alloc_new w (.cells #[.slice o p.length m,.slice k l.length j,.int .i64 d,.int .i64 h,.int .i64 f] 56);have F:(w.alloc (.cells #[.slice o p.length m,.slice k l.length j,.int .i64 d,.int .i64 h,.int .i64 f] 56)).heap.size=w.heap.size+1:=by simp
 generalize w.alloc (.cells #[.slice o p.length m,.slice k l.length j,.int .i64 d,.int .i64 h,.int .i64 f] 56)=W at s q F ⊢;have ah:=ij (J.out.pres (ip s));have Z:Hid (IntsAt W.heap.size W (.slice k l.length j) l):=(T.out.pres (ip s)).mono s.size;have ap:=ij s;have e0:W.cell? ⟨w.heap.size,0,none⟩=some (.slice o p.length m):=by simp [World.cell?,q]
 have v:W.cell? ⟨w.heap.size,1,none⟩=some (.slice k l.length j):=by simp [World.cell?,q]
 have I:W.cell? ⟨w.heap.size,2,none⟩=some (.int .i64 d):=by simp [World.cell?,q]
 have R:W.cell? ⟨w.heap.size,3,none⟩=some (.int .i64 h):=by simp [World.cell?,q]
 have N:W.cell? ⟨w.heap.size,4,none⟩=some (.int .i64 f):=by simp [World.cell?,q]
 have C:WrS W ((W.alloc (.cells #[.int .u8 82,.int .u8 82,.int .u8 1] 5 (3,4))).alloc (.cells #[.slice (some ⟨w.heap.size+1,0,none⟩) 3 3] 172)) (w.heap.size+1+1) (.slice (some ⟨w.heap.size+1,0,none⟩) 3 3) [82,82,1]:=by
  refine⟨?_,Or.inr ⟨w.heap.size+1,#[.int .u8 82,.int .u8 82,.int .u8 1],rfl,by omega,?_,rfl,rfl⟩,by simp [Value.ownBlock],by omega,iq (iq (ir _ _))⟩
  ·have:=heap_alloc_new (W.alloc (.cells #[.int .u8 82,.int .u8 82,.int .u8 1] 5 (3,4))) (.cells #[.slice (some ⟨w.heap.size+1,0,none⟩) 3 3] 172);simpa [F]using this
  ·rw [Below.heap_alloc _ _ _ (by simp;omega)];have:=heap_alloc_new W (.cells #[.int .u8 82,.int .u8 82,.int .u8 1] 5 (3,4));rwa [F]at this
 generalize (W.alloc (.cells #[.int .u8 82,.int .u8 82,.int .u8 1] 5 (3,4))).alloc (.cells #[.slice (some ⟨w.heap.size+1,0,none⟩) 3 3] 172)=w3 at C ⊢;generalize w.heap.size+1+1=b at C ⊢;clear s q F J T;refine(zQ W b p (.agg #[.slice o p.length m]) w3 _ [82,82,1] C (by decide) ah.out an.out HI.out).mono ?_;rintro e w4 ⟨⟨u4,rfl⟩,ad,G,aj⟩;have d1:=ip G.base _ _ v;have S:=ij G;clear G aj C e0 v;go_wp2_with fail
 refine(x7 W b l (.slice k l.length j) w4 ad ([82,82,1]++me p) S.out (by have:=H.out;simp only [List.length_append,List.length_cons,List.length_nil];omega) Z.out ag.out).mono ?_;rintro e w5 ⟨⟨u5,rfl⟩,ac,u,aa⟩;have d2:=ip u.base _ _ I;have d3:=ip u.base _ _ R;have d4:=ip u.base _ _ N;have V:=ij u;clear u aa S d1 I R N;go_wp2_with fail
 refine(AH W b (d,h,f) (by simp only;omega) (by simp only;omega) (by simp only;omega) w5 ac ([82,82,1]++me p++mD l) V.out (by have:=H.out;have:=Q.out;simp only [List.length_append,List.length_cons,List.length_nil];omega)).mono ?_;rintro e w6 ⟨⟨u6,rfl⟩,ak,K,af⟩;have O:=ij K;clear K af V d2 d3 d4;have ar:Hid ((mJ (d,h,f)).length<=30):=by
  unfold Hid mJ;have h3:=jL (n:=d) (by omega);have h4:=jL (n:=h) (by omega);have h5:=jL (n:=f) (by omega);simp only [List.length_append];omega
 go_wp2_with fail
 refine(DR W b w6 ak ([82,82,1]++me p++mD l++mJ (d,h,f)) O.out (by have:=H.out;have:=Q.out;have:=ar.out;simp only [List.length_append,List.length_cons,List.length_nil];omega) X.out).mono ?_;rintro e w7 ⟨⟨u7,rfl⟩,bv7,r,ao⟩;rw [<-L.out]at r;have au:=ij r;have d5:=r.cell;have d6:=r.row.str;obtain⟨x1,x3,rfl⟩:=r.row.form;clear r ao O;go_wp2_with fail
 go_ret;exact⟨rfl,il ap.out au.out.base⟩
theorem Cr(a:Art)(tv sv:Value)(w:World)(z:ShpAt w)(p:ProgAt w (.agg #[tv]) a.prog)(o:IntsAt w.heap.size w sv a.sch)(t:jI a=0)(u:∀ c∈a.prog,∀ i∈c,kR i):
  Calls Tryz.prog 39 #[pK tv sv a.ver] w fun e w'=>e= .returned (.tuple #[.string (bs (mN a)),.int .i64 0])/\w.grownBy w' none:=by
 have E:=p.form;obtain⟨b,k,m⟩:=E;simp only [Value.agg.injEq,Array.mk.injEq,List.cons.injEq,and_true]at m;obtain⟨j,h,s⟩:=o.form;subst m s;have d:w.grownBy (w.alloc (.cells #[.slice b a.prog.length k,.slice j a.sch.length h,.int .i64 a.ver.1,.int .i64 a.ver.2.1,.int .i64 a.ver.2.2] 56)) none:=iq (ir _ _);have n:=heap_alloc_new w (.cells #[.slice b a.prog.length k,.slice j a.sch.length h,.int .i64 a.ver.1,.int .i64 a.ver.2.1,.int .i64 a.ver.2.2] 56);have r:=ij (tk a (.slice b a.prog.length k) (.slice j a.sch.length h) _ (ShpAt.pres z (ip d)) (p.pres (ip d)) ((o.pres (ip d)).mono d.size));rw [t]at r;have D:=ij (fun(w':World) (hg:w.grownBy w' none)=>E1 a (.slice b a.prog.length k) (.slice j a.sch.length h) w' (p.pres (ip hg)) ((o.pres (ip hg)).mono hg.size) t u);clear z p o t u;unfold pK at*;go_enter Tryz.func39,Tryz.ntmps39
 go_wp2_with fail
 generalize w.alloc (.cells #[.slice b a.prog.length k,.slice j a.sch.length h,.int .i64 a.ver.1,.int .i64 a.ver.2.1,.int .i64 a.ver.2.2] 56)=W at d n r ⊢;refine r.out.mono ?_;rintro e f ⟨rfl,q⟩;have l:f.heap[w.heap.size]?=some (.cells #[.slice b a.prog.length k,.slice j a.sch.length h,.int .i64 a.ver.1,.int .i64 a.ver.2.1,.int .i64 a.ver.2.2] 56 (0,0)):=by
  rw [q.block _ (Array.getElem?_eq_some_iff.1 n).1 (by simp)];exact n
 have B:f.cell? ⟨w.heap.size,0,none⟩=some (.slice b a.prog.length k):=by simp [World.cell?,l]
 have m:f.cell? ⟨w.heap.size,1,none⟩=some (.slice j a.sch.length h):=by simp [World.cell?,l]
 have s:f.cell? ⟨w.heap.size,2,none⟩=some (.int .i64 a.ver.1):=by simp [World.cell?,l]
 have C:f.cell? ⟨w.heap.size,3,none⟩=some (.int .i64 a.ver.2.1):=by simp [World.cell?,l]
 have A:f.cell? ⟨w.heap.size,4,none⟩=some (.int .i64 a.ver.2.2):=by simp [World.cell?,l]
 have y:=ij (il d q);clear q l n d;go_wp2_with fail
 refine(D.out f y.out).mono ?_;rintro e w3 ⟨rfl,x⟩;have F:=ij (il y.out x);clear x B m s C A;go_wp2_with fail
 refine bodyPost_ret (v:= .tuple #[.string (bs (mN a)),.int .i64 0]) (by simp [results,Tryz.results39,go_sem]) rfl ?_;exact⟨rfl,F.out⟩
theorem CM(a:Art)(tv sv:Value)(w:World)(n:ShpAt w)(j:ProgAt w (.agg #[tv]) a.prog)(f:IntsAt w.heap.size w sv a.sch)(o:jI a≠0):
  Calls Tryz.prog 39 #[pK tv sv a.ver] w fun e w'=>e= .returned (.tuple #[.string ⟨#[]⟩,.int .i64 (jI a)])/\w.grownBy w' none:=by
 have r:=j.form;obtain⟨c,k,l⟩:=r;simp only [Value.agg.injEq,Array.mk.injEq,List.cons.injEq,and_true]at l;obtain⟨i,h,p⟩:=f.form;subst l p;have b:w.grownBy (w.alloc (.cells #[.slice c a.prog.length k,.slice i a.sch.length h,.int .i64 a.ver.1,.int .i64 a.ver.2.1,.int .i64 a.ver.2.2] 56)) none:=iq (ir _ _);have d:=ij (tk a (.slice c a.prog.length k) (.slice i a.sch.length h) _ (ShpAt.pres n (ip b)) (j.pres (ip b)) ((f.pres (ip b)).mono b.size));clear n j f;unfold pK at*;generalize jI a=ee at*;have hne:(ee !=0)=true:=by simpa using o
 clear o;go_enter Tryz.func39,Tryz.ntmps39
 go_wp2_with fail
 generalize w.alloc (.cells #[.slice c a.prog.length k,.slice i a.sch.length h,.int .i64 a.ver.1,.int .i64 a.ver.2.1,.int .i64 a.ver.2.2] 56)=W at b d ⊢;refine d.out.mono ?_;rintro e w2 ⟨rfl,m⟩;have q:=ij (il b m);clear m b d;go_wp2_with fail
 refine bodyPost_ret (v:= .tuple #[.string ⟨#[]⟩,.int .i64 ee]) (by simp [results,Tryz.results39,go_sem]) rfl ?_;exact⟨rfl,q.out⟩
theorem yC(p:List (List Ins))(s:List Int)(k0 k1 k2:Int)(tv sv:Value)(w:World)(f:ShpAt w)(k:ProgAt w (.agg #[tv]) p)(h:IntsAt w.heap.size w sv s)(m:∀ c∈p,∀ i∈c,BL i):
  Calls Tryz.prog 39 #[.agg #[tv,sv,.int .i64 k0,.int .i64 k1,.int .i64 k2]] w fun e w'=>e= .returned (kh ⟨p,s,(k0,k1,k2)⟩)/\w.grownBy w' none:=by
 by_cases a:jI ⟨p,s,(k0,k1,k2)⟩=0
 ·have b:kh ⟨p,s,(k0,k1,k2)⟩= .tuple #[.string (bs (mN ⟨p,s,(k0,k1,k2)⟩)),.int .i64 0]:=by unfold kh;rw [if_pos a]
  rw [b];refine Cr ⟨p,s,(k0,k1,k2)⟩ tv sv w f k h a (fun c hc i hi'=>?_);have j:=(qW a).1;simp only [iU,Bool.and_eq_true,List.all_eq_true]at j;have d:=j.2.2 c hc;simp only [kT,Bool.and_eq_true,List.all_eq_true,decide_eq_true_eq]at d;obtain⟨g1,g2,l⟩:=pI (d.2 i hi');exact ud ⟨g1,g2,l,m c hc i hi'⟩
 ·have b:kh ⟨p,s,(k0,k1,k2)⟩= .tuple #[.string ⟨#[]⟩,.int .i64 (jI ⟨p,s,(k0,k1,k2)⟩)]:=by unfold kh;rw [if_neg a]
  rw [b];exact CM ⟨p,s,(k0,k1,k2)⟩ tv sv w f k h a
theorem xw(a:Art):∃ S E,kh a= .tuple #[.string S,.int .i64 E]:=by
 unfold kh;by_cases h:jI a=0
 ·rw [if_pos h];exact⟨_,_,rfl⟩
 ·rw [if_neg h];exact⟨_,_,rfl⟩
theorem pE{w:World}{g:Nat}{x0 x1 x2 x3 a:Value}{t:TypeId}(h:w.heap[g]?=some (.cells #[x0,x1,x2,x3,a] t (0,0))):w.cell? ⟨g,0,none⟩=some x0/\w.cell? ⟨g,1,none⟩=some x1/\w.cell? ⟨g,2,none⟩=some x2/\w.cell? ⟨g,3,none⟩=some x3/\w.cell? ⟨g,4,none⟩=some a:=by
 simp [World.cell?,h]
theorem BI(n:Int)(w:World):Calls Tryz.prog 23 #[.int .i64 n] w fun e w'=>e= .returned (.int .i64 n)/\w'=w:=by
 go_enter Tryz.func23,Tryz.ntmps23
 go_wp2_with fail
 go_ret;exact⟨rfl,rfl⟩
theorem Aa(W:World)(B:Nat)(w:World)(b:Nat)(who:Nat->Role)(n:Int)(f:Nat->Value)(K:Nat->List (Value × Int))(tv sv:Value)(p:List (List Ins))(s:List Int)(k0 k1 k2:Int)
  (h:Hz B w b who n f K) (hW:W.grownBy w none) (G:W.heap.size<=B) (hS:ShpAt W) (hP:ProgAt W (.agg #[tv]) p) (hI:IntsAt W.heap.size W sv s) (af:p.length<=5864062014634) (am:∀ c∈p,c.length<=4398046510976) (aZ:s.length<=17592186043904) (au:∀ c∈p,∀ i∈c,BL i):
  Calls Tryz.prog 11 #[pt b,.agg #[tv,sv,.int .i64 k0,.int .i64 k1,.int .i64 k2]] w (HzE W B b n K w who):=by
 obtain⟨v,x,ak⟩:=hP.form;simp only [Value.agg.injEq,Array.mk.injEq,List.cons.injEq,and_true]at ak;subst ak;obtain⟨t,r,rfl⟩:=hI.form;have HH:=ij h;have HW:=ij hW;have HS:=ij hS;have HP:=ij hP;have Y:=ij hI;have aq:=ij am;have ay:=ij au;have R:pt b= .pointer (some ⟨b,0,none⟩):=rfl;clear h hW hS hP hI am au;rw [R];go_enter Tryz.func11,Tryz.ntmps11
 go_upto_region 1 with fail
 obtain⟨a,P⟩:∃ a,a=w.alloc (.cells #[.slice v p.length x,.slice t s.length r,.int .i64 k0,.int .i64 k1,.int .i64 k2] 56):=⟨_,rfl⟩;have aM:Hid (a.heap[w.heap.size]?=some (.cells #[.slice v p.length x,.slice t s.length r,.int .i64 k0,.int .i64 k1,.int .i64 k2] 56 (0,0))):=by unfold Hid;rw [P];exact heap_alloc_new w _
 have ah:Hid (w.grownBy a none):=by unfold Hid;rw [P];exact iq (ir _ _)
 rw [<-P];clear P;have D:Hid (∀ u:World,u.heap[w.heap.size]?=a.heap[w.heap.size]?->u.cell? ⟨w.heap.size,0,none⟩=some (.slice v p.length x)/\u.cell? ⟨w.heap.size,1,none⟩=some (.slice t s.length r)/\u.cell? ⟨w.heap.size,2,none⟩=some (.int .i64 k0)/\u.cell? ⟨w.heap.size,3,none⟩=some (.int .i64 k1)/\u.cell? ⟨w.heap.size,4,none⟩=some (.int .i64 k2)):=fun u hu=>by
  obtain⟨e0,e1,e2,e3,e4⟩:=pE (show u.heap[w.heap.size]?=some (.cells #[.slice v p.length x,.slice t s.length r,.int .i64 k0,.int .i64 k1,.int .i64 k2] 56 (0,0)) by rw [hu];exact aM.out);exact⟨e0,e1,e2,e3,e4⟩
 have aA:Hid (W.grownBy a.drew none):=iy (il HW.out ah.out);have S:=ij (nh W B a.drew b who n f K [] [] [] (.agg #[.slice v p.length x]) p (HH.out.lx.grown (iy ah.out)) aA.out G HP.out af aq.out (by simpa using af) (by simp));rw [R]at S;have aW:who w.heap.size= .other:=by
  by_cases e:who w.heap.size= .other
  ·exact e
  ·exact absurd (HH.out.1.1.dom _ e).2 (by omega)
 have bd:=ij aW;have aS:Hid (w.heap.size<a.heap.size):=(Array.getElem?_eq_some_iff.1 aM.out).1;clear aW;refine iz (fun u=>u.cell? ⟨w.heap.size,0,none⟩=some (.slice v p.length x)/\u.cell? ⟨w.heap.size,1,none⟩=some (.slice t s.length r)/\u.cell? ⟨w.heap.size,2,none⟩=some (.int .i64 k0)/\u.cell? ⟨w.heap.size,3,none⟩=some (.int .i64 k1)/\u.cell? ⟨w.heap.size,4,none⟩=some (.int .i64 k2)) 16 (by kernel_rfl) (by kernel_rfl) (D.out a.drew rfl) ?_;intro q;refine gJ 0 ?v1 rfl (by kernel_rfl) (fun _ _ _ h=>h) (by kernel_rfl) ?y1 q ?_
 case y1=>(rintro u ⟨l,j,d,k,m⟩;go_simp;try rfl)
 simp only [Act.put,List.setIfInBounds_toArray];refine gJ 1 ?v2 rfl (by kernel_rfl) (fun _ _ _ h=>h) (by kernel_rfl) ?y2 q ?_
 case y2=>(rintro u ⟨l,j,d,k,m⟩;go_simp;try rfl)
 simp only [Act.put];refine gJ 2 ?v3 rfl (by kernel_rfl) (fun _ _ _ h=>h) (by kernel_rfl) ?y3 q ?_
 case y3=>(rintro u ⟨l,j,d,k,m⟩;go_simp;try rfl)
 simp only [Act.put];refine gJ 4 ?v4 rfl (by kernel_rfl) (fun _ _ _ h=>h) (by kernel_rfl) ?y4 q ?_
 case y4=>(rintro u ⟨l,j,d,k,m⟩;go_simp;try rfl)
 simp only [Act.put];refine gJ 5 ?v5 rfl (by kernel_rfl) (fun _ _ _ h=>h) (by kernel_rfl) ?y5 q ?_
 case y5=>(rintro u ⟨l,j,d,k,m⟩;go_simp;try rfl)
 simp only [Act.put];refine gJ 6 ?v6 rfl (by kernel_rfl) (fun _ _ _ h=>h) (by kernel_rfl) ?y6 q ?_
 case y6=>(rintro u ⟨l,j,d,k,m⟩;go_simp;try rfl)
 simp only [Act.put];refine gJ 8 ?v7 rfl (by kernel_rfl) (fun _ _ _ h=>h) (by kernel_rfl) ?y7 q ?_
 case y7=>(rintro u ⟨l,j,d,k,m⟩;go_simp;try rfl)
 simp only [Act.put];refine gJ 9 ?v8 rfl (by kernel_rfl) (fun _ _ _ h=>h) (by kernel_rfl) ?y8 q ?_
 case y8=>(rintro u ⟨l,j,d,k,m⟩;go_simp;try rfl)
 simp only [Act.put];refine iu (i:=3) rfl (by kernel_rfl) (by kernel_rfl) (by kernel_rfl) ?_;intro K3 aw;have aD:=ij aw;clear aw;go_simp;refine(S.out).mono ?_;clear S;rintro e A ⟨g,LC1,aN,f1,rfl,E,aa,F,a1⟩;obtain⟨C,I⟩:=F.oth w.heap.size aS.out bd.out (fun e=>e);have aR:Hid (A.heap[w.heap.size]?=a.heap[w.heap.size]?):=C;have ac:Hid (W.grownBy A none):=F.base aA.out G (fun g e=>(HH.out.1.1.dom g e).1) (fun _ e=>e.elim);have bc:Hid (Fr w A who aN (fun g=>w.heap.size<=g)):=(Fr.grown (iy ah.out)).step0 F;have aJ:LC1.length=p.length:=by rw [<-aa];simp
 simp only [List.nil_append]at E;have ag:=ij (lV B A b aN n f1 K [] LC1 [(g,p.length)] 0 (.slice t s.length r) s E ((Y.out.pres (ip ac.out)).mono ac.out.size) (mF E.hs G Y.out) aZ (by simp));rw [R]at ag;have a9:=ij E;have a5:=ij aa;have a6:=ij I;have az:=ij aJ;have aH:Hid (w.heap.size<A.heap.size):=by unfold Hid;have:=F.size;have:=aS.out;simp only [World.drew]at*;omega
 clear E aa F a1 C I aJ;have ax:=D.out A aR.out;refine aD.out _ _ ax ?_;clear aD;try simp only [Act.put,List.setIfInBounds_toArray]
 refine iu (i:=7) rfl (by kernel_rfl) (by kernel_rfl) (by kernel_rfl) ?_;intro K7 aB;have aU:=ij aB;clear aB;go_simp;refine(ag.out).mono ?_;clear ag;rintro e o ⟨gs,Q,f2,rfl,y,H⟩;simp only [List.nil_append]at y;have aQ:Hid (W.grownBy o none):=H.base ac.out G (fun g e=>(a9.out.hs.1.dom g e).1) (fun _ e=>e.elim);have bm:Hid (Fr w o who Q (fun g=>w.heap.size<=g)):=bc.out.step0 H;obtain⟨C,I⟩:=H.oth w.heap.size aH.out a6.out (fun e=>e);have aP:Hid (o.heap[w.heap.size]?=a.heap[w.heap.size]?):=C.trans aR.out;have bg:=ij I;have aL:o.heap[g]?=some (.cells (jA LC1) 66 (0,0)):=by
  have:=(y.le.lr 0 (by simp)).1;simp only [List.getElem_cons_zero,List.take_zero,List.map_nil,List.sum_nil,List.drop_zero]at this;rw [List.take_of_length_le (by rw [az.out];omega)]at this;exact this
 have aI:ProgAt o (.agg #[.slice (some ⟨g,0,none⟩) p.length (p.length+2)]) p:=ni (LC0:=[]) (by simpa using y.le) aL a5.out _;have al:IntsAt o.heap.size o (.slice (some ⟨gs,0,none⟩) s.length (s.length+2)) s:=md (y.le.li (gs,s,.slice t s.length r) (by simp)).1;have ai:=ij (yC p s k0 k1 k2 _ _ o (HS.out.pres (ip aQ.out)) aI al ay.out);have aV:=ij y;have aT:Hid (w.heap.size<o.heap.size):=by unfold Hid;have:=H.size;have:=aH.out;omega
 clear y H C I aL aI al;have ab:=D.out o aP.out;obtain⟨SS,EE,Z⟩:=xw ⟨p,s,(k0,k1,k2)⟩;rw [Z]at ai;have bl:=ij Z;clear Z;refine aU.out _ _ ab ?_;clear aU;try simp only [Act.put,List.setIfInBounds_toArray]
 refine gJ 10 ?v9 rfl (by kernel_rfl) (fun _ _ _ h=>h) (by kernel_rfl) ?y9 ab ?_
 case y9=>(rintro u ⟨l,j,d,k,m⟩;go_simp;try rfl)
 simp only [Act.put,List.setIfInBounds_toArray];refine iu (i:=11) rfl (by kernel_rfl) (by kernel_rfl) (by kernel_rfl) ?_;intro K11 aF;have an:=ij aF;clear aF;go_simp;refine(ai.out).mono ?_;clear ai;rintro e O ⟨rfl,N⟩;have X:=ij N;have aK:Hid (O.heap[w.heap.size]?=a.heap[w.heap.size]?):=by unfold Hid;rw [N.block _ aT.out (by simp)];exact aP.out
 have bf:Hid (W.grownBy O none):=il aQ.out N;clear N;have z:=D.out O aK.out;refine an.out _ _ z ?_;clear an;try simp only [Act.put,List.setIfInBounds_toArray]
 refine gJ 12 ?v10 rfl (by kernel_rfl) (fun _ _ _ h=>h) (by kernel_rfl) ?y10 z ?_
 case y10=>(rintro u ⟨l,j,d,k,m⟩;go_simp;try rfl)
 simp only [Act.put,List.setIfInBounds_toArray];refine gJ 13 ?v11 rfl (by kernel_rfl) (fun _ _ _ h=>h) (by kernel_rfl) ?y11 z ?_
 case y11=>(rintro u ⟨l,j,d,k,m⟩;go_simp;try rfl)
 simp only [Act.put];refine gJ 14 ?v12 rfl (by kernel_rfl) (fun _ _ _ h=>h) (by kernel_rfl) ?y12 z ?_
 case y12=>(rintro u ⟨l,j,d,k,m⟩;go_simp;try rfl)
 simp only [Act.put];refine gJ 15 ?v13 rfl (by kernel_rfl) (fun _ _ _ h=>h) (by kernel_rfl) ?y13 z ?_
 case y13=>(rintro u ⟨l,j,d,k,m⟩;go_simp;try rfl)
 simp only [Act.put];refine iH rfl (by kernel_rfl) (by kernel_rfl) (by kernel_rfl) ?_;go_simp;clear q ax ab z;have V:=ij (rq B O b Q n f2 K _ _ _ (aV.out.grown X.out) (by simp) (by rw [az.out];omega) (by simp));rw [R]at V;go_wp2_with fail
 refine V.out.mono ?_;clear V;rintro e J ⟨rfl,f4,aO,M⟩;have L:Hid (W.grownBy J none):=M.base bf.out G (fun g e=>(aV.out.hs.1.dom g e).1) (fun _ e=>e.elim);have bo:Hid (Fr w J who Q (fun g=>w.heap.size<=g)):=(bm.out.stepG X.out).step0 M;have bj:Hid (J.heap[w.heap.size]?=a.heap[w.heap.size]?):=by
  unfold Hid;rw [(M.oth w.heap.size (Nat.lt_of_lt_of_le aT.out X.out.size) bg.out (fun e=>e)).1];exact aK.out
 obtain⟨d0,d1,d2,d3,d4⟩:=D.out J bj.out;have T:=ij (rA p s k0 k1 k2 (.slice v p.length x) (.slice t s.length r) J (HP.out.pres (ip L.out)) ((Y.out.pres (ip L.out)).mono L.out.size) af aq.out ay.out);rw [bl.out]at T;have av:=ij aO;clear aO M;go_wp2_with fail
 refine T.out.mono ?_;clear T d0 d1 d2 d3 d4;rintro e w5 ⟨aE,rfl⟩;have U:=ij aE;clear aE;go_wp2_with (go_at_call 23;refine(BI _ _).mono ?_;rintro e w9 ⟨rfl,a8⟩;have aY:=a8.symm;subst aY)
 go_ret;exact⟨by simp,Q,f4,⟨av.out.1.grown U.out,av.out.2⟩,il L.out U.out,bo.out.stepG U.out⟩
theorem Bb(W:World)(B:Nat)(w:World)(b:Nat)(who:Nat->Role)(n:Int)(f:Nat->Value)(K:Nat->List (Value × Int))(s:ByteArray)
  (h:Hz B w b who n f K) (hW:W.grownBy w none) (bk:W.heap.size<=B) (hS:ShpAt W) (hs:s.size<=9223372036854775000) (bO:0<=n) (hn1:n<=8000000000000) (hK:∀ c,c<5->(K c).length<=4900000000000):
  Calls Tryz.prog 12 #[pt b,.string s] w (HzD W B b n K):=by
 have v:=ij h;have HW:=ij hW;have HS:=ij hS;have HK:=ij hK;have al:pt b= .pointer (some ⟨b,0,none⟩):=rfl;have t:=ij (vF s);have aV:=ij (fun(u:World) (hu:W.grownBy u none)=>B4 s u (HS.out.pres (ip hu)) (by omega));have be:=ij (fun(u:World)=>xt s u hs);clear h hW hS hK;rw [al];go_enter Tryz.func12,Tryz.ntmps12
 go_wp2_with fail
 refine(aV.out _ HW.out).mono ?_;clear aV;intro e d hD;obtain⟨a5,tv,sv,he,J,E⟩:=hD.form;clear hD;subst he;have an:Hid (∀ u e u',RDec u s e u'->u.grownBy u' none/\∃ tv sv,e= .returned (.tuple #[.agg #[tv,sv,.int .i64 (jO s).1.ver.1,.int .i64 (jO s).1.ver.2.1,.int .i64 (jO s).1.ver.2.2],.int .i64 (jO s).2])/\ProgAt u' (.agg #[tv]) (jO s).1.prog/\IntsAt u'.heap.size u' sv (jO s).1.sch):=fun u e u' h=>h.form
 generalize jO s=D at*;obtain⟨⟨p,a,k0,k1,k2⟩,ce⟩:=D;simp only at J E an t;obtain⟨A,t2,z,rfl⟩:=iw J.choose_spec.1;obtain⟨l,s2,j,rfl⟩:=iw E;have bD:=iB J.choose_spec.1;have bH:=iB E;subst bD bH;have a8:=ij J;have a9:=ij E;have bj:=ij a5;clear J E a5;go_upto_region 2 with fail
 obtain⟨r,Z⟩:∃ r,r=d.alloc (.cells #[.slice A p.length z,.slice l a.length j,.int .i64 k0,.int .i64 k1,.int .i64 k2] 56):=⟨_,rfl⟩;have a6:Hid (r.heap[d.heap.size]?=some (.cells #[.slice A p.length z,.slice l a.length j,.int .i64 k0,.int .i64 k1,.int .i64 k2] 56 (0,0))):=by unfold Hid;rw [Z];exact heap_alloc_new d _
 have bq:Hid (d.grownBy r none):=by unfold Hid;rw [Z];exact iq (ir _ _)
 rw [<-Z];clear Z;have au:Hid (w.heap.size<=d.heap.size/\d.heap.size<r.heap.size):=⟨bj.out.size,(Array.getElem?_eq_some_iff.1 a6.out).1⟩;generalize bc:d.heap.size=n5 at*;have bl:=ij bc;clear bc;go_wp2_with fail
 refine(be.out r).mono ?_;clear be;intro e N hR;obtain⟨bd,rv,yv,he,ao,aw⟩:=an.out _ _ _ hR;clear hR an;subst he;obtain⟨ra,rc,aL⟩:=ao.form;simp only [Value.agg.injEq,Array.mk.injEq,List.cons.injEq,and_true]at aL;subst aL;obtain⟨ya,yc,rfl⟩:=aw.form;have bF:=ij bd;have bM:=ij ao;have bK:=ij aw;clear bd ao aw;go_upto_region 3 with fail
 obtain⟨i,ak⟩:∃ i,i=N.alloc (.cells #[.slice ra p.length rc,.slice ya a.length yc,.int .i64 k0,.int .i64 k1,.int .i64 k2] 56):=⟨_,rfl⟩;have ba:Hid (i.heap[N.heap.size]?=some (.cells #[.slice ra p.length rc,.slice ya a.length yc,.int .i64 k0,.int .i64 k1,.int .i64 k2] 56 (0,0))):=by unfold Hid;rw [ak];exact heap_alloc_new N _
 have aj:Hid (N.grownBy i none):=by unfold Hid;rw [ak];exact iq (ir _ _)
 rw [<-ak];clear ak;generalize aX:N.heap.size=n7 at*;have br:=ij aX;clear aX;have aE:Hid (r.grownBy i none):=il bF.out aj.out;have aI:Hid (d.grownBy i none):=il bq.out aE.out;have Y:Hid (∀ u:World,i.grownBy u none->(u.cell? ⟨n5,0,none⟩=some (.slice A p.length z)/\u.cell? ⟨n5,1,none⟩=some (.slice l a.length j)/\u.cell? ⟨n5,2,none⟩=some (.int .i64 k0)/\u.cell? ⟨n5,3,none⟩=some (.int .i64 k1)/\u.cell? ⟨n5,4,none⟩=some (.int .i64 k2))/\(u.cell? ⟨n7,0,none⟩=some (.slice ra p.length rc)/\u.cell? ⟨n7,1,none⟩=some (.slice ya a.length yc)/\u.cell? ⟨n7,2,none⟩=some (.int .i64 k0)/\u.cell? ⟨n7,3,none⟩=some (.int .i64 k1)/\u.cell? ⟨n7,4,none⟩=some (.int .i64 k2))):=fun u hu=>
  ⟨pE (by rw [(il aE.out hu).block n5 au.out.2 (by simp)];exact a6.out),pE (by rw [hu.block n7 (Array.getElem?_eq_some_iff.1 ba.out).1 (by simp)];exact ba.out)⟩
 have bz:Hid (ProgAt d (.agg #[.slice A p.length z]) p):=a8.out.progAt;have aR:=ij (tH p _ _ i (bz.out.pres (ip aI.out)) (bM.out.pres (ip aj.out)) (by have:=t.out.1;omega) (fun c hc=>by have:=t.out.2.1 c hc;omega));obtain⟨⟨Q,m,G,S,P⟩,U,M,F,O,H⟩:=Y.out i (ir _ _);clear m G S P M F O H;go_wp2_with fail
 refine aR.out.mono ?_;clear aR Q U;rintro e w5 ⟨rfl,y⟩;have bE:=ij y;have bI:Hid (d.grownBy w5 none):=il aI.out y;have ar:=ij (sB a a (.slice l a.length j) (.slice ya a.length yc) w5 (jy (iD a9.out bI.out (fun _ e=>by cases e))) ((bK.out.pres (ip (il aj.out y))).mono (by have:=br.out;have:=(il aj.out y).size;omega)) (by have:=t.out.2.2;omega));rw [show (a==a)=true by simp]at ar;obtain⟨⟨Q,m,G,S,P⟩,U,M,F,O,H⟩:=Y.out w5 y;clear y Q G S P U F O H;go_wp2_with fail
 refine ar.out.mono ?_;clear ar m M;rintro e w6 ⟨rfl,aT⟩;have ah:Hid (i.grownBy w6 none):=il bE.out (iK aT);have L:Hid (d.grownBy w6 none):=il aI.out ah.out;have aQ:Hid (w.grownBy w6 none):=il bj.out L.out;clear aT;obtain⟨⟨Q,m,G,S,P⟩,U,M,F,O,H⟩:=Y.out w6 ah.out;clear m U M;go_upto_region 6 with (go_at_call 23;refine(BI _ _).mono ?_;rintro e w9 ⟨rfl,bt⟩;have bp:=bt.symm;subst bp)
 clear G S P F O H;have hlow:B<=w.heap.size:=by have:=v.out.1.1.dom b (by rw [v.out.1.1.wb];simp);omega
 obtain⟨T,hTl,I⟩:=DQ a8.out (fun c hc=>by have:=t.out.2.1 c hc;omega);have hT4:T.length<=4:=by have:=t.out.1;omega
 have am:∀ q,w.heap.size<=q->who q= .other:=fun q hq=>by
  by_cases ho:who q= .other
  ·exact ho
  ·exact absurd (v.out.1.1.dom q ho).2 (by omega)
 have aN:=ij am;have C:=ij I;have aA:=ij (tN B w6 b who n f K (.slice A p.length z) T (v.out.1.grown aQ.out) ((I.grown L.out).low (by omega)) (fun q e=>am q (by have:=iA I.row q e;omega)) (fun x hx q e=>am q (by have:=iA (I.el x hx).1 q e;omega)) bO (by omega) (by have:=HK.out 3 (by omega);omega) (by have:=HK.out 4 (by omega);omega) (by omega));rw [al]at aA;clear I am;go_wp2_with fail
 refine aA.out.mono ?_;clear aA Q;rintro e w7 ⟨⟨v7,rfl⟩,ap,f7,K7,az,X,aS,bL,bC,V⟩;have bu:Hid (W.grownBy w6 none):=il HW.out aQ.out;have aH:∀ q,((Value.slice A p.length z).ownBlock=some q\/∃ x∈T,x.1.ownBlock=some q)->w.heap.size<=q/\q<n5:=fun q e=>by
  rcases e with e | ⟨x,hx,e⟩
  ·have h1:=iA C.out.row q e;have h2:=iZ C.out.row q e;have:=bl.out;omega
  ·have h1:=iA (C.out.el x hx).1 q e;have h2:=iZ (C.out.el x hx).1 q e;have:=bl.out;omega
 have bB:Hid (W.grownBy w7 none):=X.base bu.out bk (fun g e=>(v.out.1.1.dom g e).1) (fun q e=>by have:=(aH q e).1;have:=HW.out.size;omega);have bN:n5<w6.heap.size:=by have:=au.out.2;have:=(il aE.out ah.out).size;omega
 have m:w7.cell? ⟨n5,1,none⟩=some (.slice l a.length j):=by
  rw [World.cell?_of_block (X.oth n5 bN (aN.out n5 au.out.1) (fun e=>by have:=(aH n5 e).2;omega)).1];exact(Y.out w6 ah.out).1.2.1
 have o:w6.ownsRow (w.heap.size+6) 3 1 (.slice l a.length j) a.length (iL a):=iD a9.out L.out (fun _ e=>by cases e);have ai:∀ q,(Value.slice l a.length j).ownBlock=some q->w7.heap[q]?=w6.heap[q]?/\ap q= .other:=fun q e=>by
  refine X.oth q (iZ o q e) (aN.out q (by have:=iA o q e;omega)) (fun h=>?_);rcases h with h | ⟨x,hx,h⟩
  ·exact pL o (C.out.grown L.out).row (by decide) q e h
  ·exact pL o ((C.out.grown L.out).el x hx).1 (by decide) q e h
 have bo:=ij (fun q e=>(And.intro (iA o q e) (ai q e).2:w.heap.size+6<=q/\ap q= .other));have aB:=ij (od B w7 b ap (n+T.length+1) f7 K7 (.slice l a.length j) a.length _ az (iQ (iM o (fun q e=>(ai q e).1)) (by omega)) (fun q e=>(ai q e).2) (by omega) (by omega) (by rw [V 0 (by omega) (by omega)];have:=HK.out 0 (by omega);omega) (by have:=t.out.2.2;omega));rw [al]at aB;have bx:=ij az;have aU:Hid (∀ c,c<5->(K7 c).length<=(K c).length+16/\(c=0->K7 c=K c)):=fun c hc=>by
  refine⟨?_,fun e=>V c (by omega) (by omega)⟩;by_cases e3:c=3
  ·subst e3;omega
  ·by_cases e4:c=4
   ·subst e4;omega
   ·rw [V c e3 e4];omega
 have bA:=ij aS;clear az X aS bL bC V ai o aH;go_wp2_with fail
 refine aB.out.mono ?_;clear aB m;rintro e w8 ⟨⟨v8,rfl⟩,aq,f8,K8,aG,R⟩;have bn:Hid (W.grownBy w8 none):=R.fr.base bB.out bk (fun g e=>(bx.out.1.dom g e).1) (fun q e=>by have:=(bo.out q e).1;have:=HW.out.size;omega);have bb:Hid (Hz B w8 b aq (n+T.length+1+1) f8 K8):=⟨aG,fun k hk=>by rw [R.lent k hk,bA.out k hk];exact v.out.2 k hk⟩;have bf:Hid (∀ c,c<5->(K8 c).length<=(K c).length+16):=fun c hc=>by
  by_cases e:c=0
  ·subst e;have:=R.len;rw [(aU.out 0 (by omega)).2 rfl]at this;omega
  ·rw [R.oth c e];exact(aU.out c hc).1
 have aC:=ij (qf B w8 b aq (n+T.length+1+1) f8 K8 aG (fun c hc=>by have:=bf.out c hc;have:=HK.out c hc;omega));rw [al]at aC;clear aG R;go_wp2_with fail
 refine aC.out.mono ?_;clear aC;rintro e w9 ⟨rfl,aW⟩;have a7:Hid (w8.grownBy w9 none):=iK aW;clear aW;go_wp2_with fail
 go_ret;exact⟨by simp,_,aq,f8,K8,by omega,by omega,⟨bb.out.1.grown a7.out,bb.out.2⟩,il bn.out a7.out,bf.out⟩
theorem Cy(n:Int)(w:World):Calls Tryz.prog 23 #[.int .i64 n] w fun e w'=>e= .returned (.int .i64 n)/\w'=w:=by
 go_enter Tryz.func23,Tryz.ntmps23
 go_wp2_with fail
 go_ret;exact⟨rfl,rfl⟩
def ve(l:List Int):ByteArray × Int:=if jc l=true then (⟨(lT l).toArray⟩,0) else (⟨#[]⟩,2)
theorem wK{l:List Int}{e:Ending}(h:(jc l=true/\e= .returned (.tuple #[.string ⟨(lT l).toArray⟩,.int .i64 0]))\/(jc l=false/\e= .returned (.tuple #[.string ⟨#[]⟩,.int .i64 2]))):e= .returned (.tuple #[.string (ve l).1,.int .i64 (ve l).2]):=by
 unfold ve;rcases h with ⟨h,rfl⟩ | ⟨h,rfl⟩
 ·rw [if_pos h]
 ·rw [if_neg (by rw [h];simp)]
theorem zP(W:World)(B:Nat)(w:World)(b:Nat)(who:Nat->Role)(n:Int)(f:Nat->Value)(K:Nat->List (Value × Int))(C:Value)(l:List Int)
  (h:Hz B w b who n f K) (m:W.grownBy w none) (o:W.heap.size<=B) (N:Tab W) (a:IntsAt W.heap.size W C l) (hln:l.length<=1048576):
  Calls Tryz.prog 14 #[pt b,C] w (HzE W B b n K w who):=by
 have Y:=ij h;have R:=ij m;have T:=ij N;have Z:=ij a;obtain⟨r,q,rfl⟩:=a.form;have J:pt b= .pointer (some ⟨b,0,none⟩):=rfl;have s:=ij (lV B w b who n f K [] [] [] 0 (.slice r l.length q) l h.lx ((a.pres (ip m)).mono m.size) (mF h.1 o a) (by omega) (by simp));clear h m N a;rw [J]at s ⊢;go_enter Tryz.func14,Tryz.ntmps14
 go_wp2_with fail
 refine s.out.mono ?_;clear s;rintro e d ⟨M,i,f1,rfl,k,v⟩;simp only [List.nil_append]at k;have E:Hid (W.grownBy d none):=v.base R.out o (fun g e=>(Y.out.1.1.dom g e).1) (fun _ e=>e.elim);have P:Hid (Fr w d who i (fun g=>w.heap.size<=g)):=(Fr.refl _ _ _).step0 v;have z:IntsAt d.heap.size d (.slice (some ⟨M,0,none⟩) l.length (l.length+2)) l:=md (k.le.li (M,l,.slice r l.length q) (by simp)).1;have G:=ij (DH l _ d (T.out.grown E.out) z);have L:=ij k;clear k v z;go_wp2_with fail
 refine G.out.mono ?_;clear G;rintro e I ⟨j,c⟩;obtain rfl:=wK c;clear c;have Q:=ij j;have S:Hid (W.grownBy I none):=il E.out j;have t:=ij (rq B I b i n f1 K _ _ _ (L.out.grown j) (by simp) (by simp) (by simp));rw [J]at t;clear j;go_wp2_with fail
 refine t.out.mono ?_;clear t;rintro e u ⟨rfl,V,D,y⟩;have p:Hid (W.grownBy u none):=y.base S.out o (fun g e=>(L.out.hs.1.dom g e).1) (fun _ e=>e.elim);have U:Hid (Fr w u who i (fun g=>w.heap.size<=g)):=(P.out.stepG Q.out).step0 y;have A:=ij D;have H:=ij (ym l (.slice r l.length q) u ((Z.out.pres (ip p.out)).mono p.out.size));clear D y;go_wp2_with fail
 refine H.out.mono ?_;clear H;rintro e w4 ⟨F,c⟩;obtain rfl:=wK c;clear c;generalize ve l=PO at*;obtain⟨ps,pe⟩:=PO;have x:=ij F;clear F;go_wp2_with (go_at_call 23;refine(Cy _ _).mono ?_;rintro e w9 ⟨rfl,X⟩;have O:=X.symm;subst O)
 go_ret;exact⟨by simp,i,V,⟨A.out.1.grown x.out,A.out.2⟩,il p.out x.out,U.out.stepG x.out⟩
theorem CO(l:List Nat):(jM l).out.length<=500:=by
 rw [pP];unfold lF;split
 ·simp
 ·cases jj (i7 l) (-1) []with
  | none=>simp
  | some x=>
   simp only;split
   ·simp
   ·show x.1.length<=500
    omega
theorem C5(W:World)(B:Nat)(w:World)(b:Nat)(who:Nat->Role)(n:Int)(f:Nat->Value)(K:Nat->List (Value × Int))(s:ByteArray)
  (h:Hz B w b who n f K) (hW:W.grownBy w none) (al:W.heap.size<=B) (hs:s.size<=1048576) (aq:0<=n) (hn1:n<=9000000000000) (L:∀ c,c<5->(K c).length<=4900000000000):
  Calls Tryz.prog 13 #[pt b,.string s] w (HzG W B b (n+1) K):=by
 have a:=ij h;have T:=ij hW;have R:=ij L;have J:pt b= .pointer (some ⟨b,0,none⟩):=rfl;have Z:=ij (CO (byt s));clear h hW L;rw [J];go_enter Tryz.func13,Tryz.ntmps13
 go_wp2_with fail
 refine(DV s w (by omega)).mono ?_;rintro e w1 ⟨x,y,z,rfl,Q,Y⟩;have ak:=ij Y;have af:=ij Q;clear Y Q;have F:=ij (yS s w1 hs);rw [<-pP]at F;generalize hp:jM (byt s)=p at*;obtain⟨out,at_,ok⟩:=p;simp only at*;clear hp;go_wp2_with (go_at_call 46;refine F.out.mono ?_)
 clear F;rintro e H ⟨x',y',z',rfl,m,D⟩;have aj:Hid (w.grownBy H none):=il ak.out D;have i:H.ownsRow (w.heap.size+1) 3 1 (.slice x y z) out.length (iL out):=iD af.out D (fun _ e=>by cases e);have ac:=iB i;have ai:=iB m;subst ac;subst ai;have o:=ij (sB out out _ _ H (jy i) (jy m) (by have:=Z.out;omega));rw [show (out==out)=true by simp]at o;have P:=ij i;simp only [F6];generalize FR ok=pe at*;clear i m D;go_wp2_with (go_at_call 30;refine o.out.mono ?_)
 clear o;rintro e I ⟨rfl,E⟩;have U:Hid (w.grownBy I none):=jg aj.out E;have t:∀ q,(Value.slice x out.length z).ownBlock=some q->w.heap.size+1<=q/\who q= .other:=fun q e=>by
  have h1:=iA P.out q e;refine⟨h1,?_⟩;by_cases X:who q= .other
  ·exact X
  ·exact absurd (a.out.1.1.dom q X).2 (by omega)
 have ar:=ij t;have hlow:B<=w.heap.size:=by have:=(a.out.1.1.dom b (by rw [a.out.1.1.wb];simp));omega
 have N:I.ownsRow B 3 1 (.slice x out.length z) out.length (iL out):=iQ (iD P.out (iK (r:=none) E) (fun _ e=>by cases e)) (by omega);have v:=ij (od B I b who n f K (.slice x out.length z) out.length _ (a.out.1.grown U.out) N (fun q e=>(t q e).2) aq (by omega) (by have:=R.out 0 (by omega);omega) (by have:=Z.out;omega));rw [J]at v;clear N E t;go_wp2_with (go_at_call 31;refine v.out.mono ?_)
 clear v;rintro e j ⟨⟨rv,rfl⟩,A,C,l,u,d⟩;have ab:Hid (W.grownBy j none):=d.fr.base (il T.out U.out) al (fun g e=>(a.out.1.1.dom g e).1) (fun q e=>by have:=(ar.out q e).1;have:=T.out.size;omega);have S:Hid (Hz B j b A (n+1) C l):=⟨u,fun k hk=>by rw [d.lent k hk];exact a.out.2 k hk⟩;have O:Hid (∀ c,c<5->(l c).length<=(K c).length+4):=fun c hc=>by
  by_cases e:c=0
  ·subst e;have:=d.len;omega
  ·rw [d.oth c e];omega
 have G:=ij (qf B j b A (n+1) C l u (fun c hc=>by have:=O.out c hc;have:=R.out c hc;omega));clear u d;rw [J]at G;go_wp2_with (go_at_call 27;refine G.out.mono ?_)
 clear G;rintro e w5 ⟨rfl,M⟩;have V:Hid (j.grownBy w5 none):=iK M;clear M;go_wp2_with (go_at_call 23;refine(Cy _ _).mono ?_;rintro e w9 ⟨rfl,ap⟩;have ae:=ap.symm;subst ae)
 go_ret;exact⟨by simp,A,C,l,⟨S.out.1.grown V.out,S.out.2⟩,il ab.out V.out,O.out⟩
end
section
open Go.RowKit
def f00:Nat->Value:=fun k=>if k=5 then .int .i64 0 else .slice none 0 0
theorem Hz.start{w:World}{b:Nat}(h:w.heap[b]?=some (.cells (hcl f00) 45 (0,0))):Hz b w b (setW (fun _=> .other) b .hands) 0 f00 (fun _=>[]):=by
 have a:∀ k,k≠5->f00 k= .slice none 0 0:=fun k hk=>by unfold f00;rw [if_neg hk]
 refine⟨⟨⟨h,rfl,fun c hc=>?_,fun c hc=>?_,fun c hc g e=>?_,fun c hc g e=>?_,jC _ _ _,fun c hc x hx=>(by cases hx),fun g e=>?_⟩,fun c hc x hx=>(by cases hx)⟩,fun k hk=>a k (by omega)⟩
 ·rw [a _ (by omega)];exact⟨rfl,Or.inl ⟨rfl,rfl⟩⟩
 ·rw [a _ (by omega)];exact⟨rfl,Or.inl ⟨rfl,rfl⟩⟩
 ·rw [a _ (by omega)]at e;cases e
 ·rw [a _ (by omega)]at e;cases e
 ·by_cases d:g=b
  ·subst d;exact⟨Nat.le_refl _,(Array.getElem?_eq_some_iff.1 h).1⟩
  ·rw [iN _ _ d]at e;exact absurd rfl e
def HX(W:World)(B b q:Nat)(w:World)(X:Nat->Prop):Prop:=∃ who n f K,Hz B w b who n f K/\W.grownBy w none/\0<=n/\n<=(q:Int)/\(∀ c,c<5->(K c).length<=q)/\∀ g,X g->g<w.heap.size/\who g= .other
def Tru(W:World)(B b q:Nat)(w:World)(X:Nat->Prop)(e:Ending)(w':World):Prop:=e= .returned (.bool true)/\HX W B b q w' X/\∀ g,X g->w'.heap[g]?=w.heap[g]?
theorem HX.grown{W w w':World}{B b q:Nat}{X:Nat->Prop}(h:HX W B b q w X)(a:w.grownBy w' none):HX W B b q w' X:=by
 obtain⟨who,n,f,K,c,i,k,j,e,d⟩:=h;exact⟨who,n,f,K,⟨c.1.grown a,c.2⟩,il i a,k,j,e,fun g hx=>⟨Nat.lt_of_lt_of_le (d g hx).1 a.size,(d g hx).2⟩⟩
theorem HX.mono{W w:World}{B b q a:Nat}{X:Nat->Prop}(h:HX W B b q w X)(l:q<=a):HX W B b a w X:=by
 obtain⟨who,n,f,K,e,i,j,h4,d,k⟩:=h;exact⟨who,n,f,K,e,i,j,by omega,fun c hc=>Nat.le_trans (d c hc) l,k⟩
theorem HX.less{W w:World}{B b q:Nat}{X Y:Nat->Prop}(h:HX W B b q w X)(j:∀ g,Y g->X g):HX W B b q w Y:=by
 obtain⟨who,n,f,K,c,d,i,e,a,k⟩:=h;exact⟨who,n,f,K,c,d,i,e,a,fun g hg=>k g (j g hg)⟩
theorem HX.made{W w:World}{B b q:Nat}{X:Nat->Prop}(h:HX W B b q w X)(o:Obj):HX W B b q (w.alloc o) (fun g=>X g\/g=w.heap.size):=by
 obtain⟨who,n,f,K,a,i,k,j,l,d⟩:=h;have c:w.grownBy (w.alloc o) none:=iq (ir _ _);refine⟨who,n,f,K,⟨a.1.grown c,a.2⟩,il i c,k,j,l,fun g hx=>?_⟩;rcases hx with hx | rfl
 ·exact⟨Nat.lt_of_lt_of_le (d g hx).1 c.size,(d g hx).2⟩
 ·refine⟨by simp,?_⟩;by_cases e:who w.heap.size= .other
  ·exact e
  ·exact absurd (a.1.1.dom _ e).2 (by omega)
theorem HX.base{W w:World}{B b q:Nat}{X:Nat->Prop}(h:HX W B b q w X):W.grownBy w none:=by
 obtain⟨_,_,_,_,_,a,_⟩:=h;exact a
theorem HX.start{W w:World}(h:w.heap[W.heap.size]?=some (.cells (hcl f00) 45 (0,0)))(hg:W.grownBy w none):HX W W.heap.size W.heap.size 0 w (fun _=>False):=
 ⟨_,_,_,_,Hz.start h,hg,Int.le_refl _,Int.le_refl _,fun _c _=>Nat.le_refl _,fun _ e=>e.elim⟩
section
variable {W w : World} {B b q : Nat} {X : Nat -> Prop} {pv sv tv : Value} {p : List (List Ins)} {s t : List Int}
theorem x9(h:HX W B b q w X)(hq:q<=4800000000000)(A:W.heap.size<=B)(y:ShpAt W)(C:ProgAt W pv p)(o:IntsAt W.heap.size W sv s)(hpl:p.length<=1048576)(t:∀ c∈p,c.length<=1048576)(hsl:s.length<=1048576):
  Calls Tryz.prog 6 #[pt b,pv,sv] w (Tru W B b (q+4) w X):=by
 obtain⟨who,n,f,K,k,l,r,h4,j,a⟩:=h;refine(xV W B w b who n f K pv sv p s k l A y C o (by omega) (fun c hc=>by have:=t c hc;omega) (by omega) r (by omega) (fun c hc=>by have:=j c hc;omega)).mono ?_;rintro e w' ⟨v,x,u,z,g1,g2,m,i⟩;have d:=fun g hg=>i.oth g (a g hg).1 (a g hg).2 (by have:=(a g hg).1;omega)
 exact⟨v,⟨x,_,u,z,g1,g2,by omega,by omega,fun c hc=>by have:=m c hc;have:=j c hc;omega,fun g hg=>⟨Nat.lt_of_lt_of_le (a g hg).1 i.size,(d g hg).2⟩⟩,fun g hg=>(d g hg).1⟩
theorem CB(h:HX W B b q w X)(hq:q<=4800000000000)(A:W.heap.size<=B)(y:ShpAt W)(C:ProgAt W pv p)(o:IntsAt W.heap.size W sv s)(hpl:p.length<=1048576)(t:∀ c∈p,c.length<=1048576)(hsl:s.length<=1048576):
  Calls Tryz.prog 7 #[pt b,pv,sv] w (Tru W B b (q+4) w X):=by
 obtain⟨who,n,f,K,k,l,r,h4,j,a⟩:=h;refine(Da W B w b who n f K pv sv p s k l A y C o (by omega) (fun c hc=>by have:=t c hc;omega) (by omega) r (by omega) (fun c hc=>by have:=j c hc;omega)).mono ?_;rintro e w' ⟨v,x,u,z,g1,g2,m,i⟩;have d:=fun g hg=>i.oth g (a g hg).1 (a g hg).2 (by have:=(a g hg).1;omega)
 exact⟨v,⟨x,_,u,z,g1,g2,by omega,by omega,fun c hc=>by have:=m c hc;have:=j c hc;omega,fun g hg=>⟨Nat.lt_of_lt_of_le (a g hg).1 i.size,(d g hg).2⟩⟩,fun g hg=>(d g hg).1⟩
theorem wV{fuel:Int}(h:HX W B b q w X)(hq:q<=4800000000000)(A:W.heap.size<=B)(y:ShpAt W)(D:ProgAt W pv p)(o:IntsAt W.heap.size W sv s)(E:ox sv)(C:fuel<=9223372036854775807)(hpl:p.length<=1048576)(t:∀ c∈p,c.length<=1048576)(hsl:s.length<=1048576):
  Calls Tryz.prog 8 #[pt b,pv,sv,.int .i64 fuel] w (Tru W B b (q+4) w X):=by
 obtain⟨who,n,f,K,k,l,r,h4,j,a⟩:=h;refine(wN W B w b who n f K pv sv p s fuel k l A y D o E C (by omega) (fun c hc=>by have:=t c hc;omega) (by omega) r (by omega) (fun c hc=>by have:=j c hc;omega)).mono ?_;rintro e w' ⟨v,x,u,z,g1,g2,m,i⟩;have d:=fun g hg=>i.oth g (a g hg).1 (a g hg).2 (by have:=(a g hg).1;omega)
 exact⟨v,⟨x,_,u,z,g1,g2,by omega,by omega,fun c hc=>by have:=m c hc;have:=j c hc;omega,fun g hg=>⟨Nat.lt_of_lt_of_le (a g hg).1 i.size,(d g hg).2⟩⟩,fun g hg=>(d g hg).1⟩
theorem xO(h:HX W B b q w X)(m:W.heap.size<=B)(A:ShpAt W)(D:ProgAt W pv p)(o:IntsAt W.heap.size W sv s)(hpl:p.length<=1048576)(u:∀ c∈p,c.length<=1048576)(hsl:s.length<=1048576)(l:IntsAt W.heap.size W tv t)(htl:t.length<=1048576):
  Calls Tryz.prog 9 #[pt b,pv,sv,tv] w (Tru W B b q w X):=by
 obtain⟨who,n,f,K,i,d,r,C,z,a⟩:=h;refine(yh W B w b who n f K pv sv tv p s t i d m A D o ((l.pres (ip d)).mono d.size) (mF i.1 m l) (by omega) (fun c hc=>by have:=u c hc;omega) (by omega) (by omega)).mono ?_;rintro e w' ⟨x,y,v,g1,g2,k⟩;have j:=fun g hg=>k.oth g (a g hg).1 (a g hg).2 (by have:=(a g hg).1;omega)
 exact⟨x,⟨y,_,v,K,g1,g2,r,C,z,fun g hg=>⟨Nat.lt_of_lt_of_le (a g hg).1 k.size,(j g hg).2⟩⟩,fun g hg=>(j g hg).1⟩
theorem Am{rv:Value}{k0 k1 k2:Int}(h:HX W B b q w X)(A:W.heap.size<=B)(y:ShpAt W)(D:ProgAt W (.agg #[rv]) p)(m:IntsAt W.heap.size W sv s)(hpl:p.length<=1048576)(r:∀ c∈p,c.length<=1048576)(hsl:s.length<=1048576)(C:∀ c∈p,∀ i∈c,BL i):
  Calls Tryz.prog 11 #[pt b,.agg #[rv,sv,.int .i64 k0,.int .i64 k1,.int .i64 k2]] w (Tru W B b q w X):=by
 obtain⟨who,n,f,K,k,l,o,z,x,a⟩:=h;refine(Aa W B w b who n f K rv sv p s k0 k1 k2 k l A y D m (by omega) (fun c hc=>by have:=r c hc;omega) (by omega) C).mono ?_;rintro e w' ⟨u,v,t,g1,g2,j⟩;have d:=fun g hg=>j.oth g (a g hg).1 (a g hg).2 (by have:=(a g hg).1;omega)
 exact⟨u,⟨v,_,t,K,g1,g2,o,z,x,fun g hg=>⟨Nat.lt_of_lt_of_le (a g hg).1 j.size,(d g hg).2⟩⟩,fun g hg=>(d g hg).1⟩
theorem AA{x:ByteArray}(h:HX W B b q w X)(hq:q<=4800000000000)(t:W.heap.size<=B)(r:ShpAt W)(k:x.size<=9223372036854775000):
  Calls Tryz.prog 12 #[pt b,.string x] w (Tru W B b (q+16) w (fun _=>False)):=by
 obtain⟨who,n,f,K,d,i,l,h4,a,_⟩:=h;refine(Bb W B w b who n f K x d i t r k l (by omega) (fun c hc=>by have:=a c hc;omega)).mono ?_;rintro e w' ⟨o,n',p,m,s,g0,g0',g1,g2,j⟩;exact⟨o,⟨p,n',m,s,g1,g2,by omega,by omega,fun c hc=>by have:=j c hc;have:=a c hc;omega,fun _ e=>e.elim⟩,fun _ e=>e.elim⟩
theorem AX(h:HX W B b q w X)(r:W.heap.size<=B)(t:Tab W)(d:IntsAt W.heap.size W sv s)(j:s.length<=1048576):
  Calls Tryz.prog 14 #[pt b,sv] w (Tru W B b q w (fun _=>False)):=by
 obtain⟨who,n,f,K,a,c,i,p,o,_⟩:=h;refine(zP W B w b who n f K sv s a c r t d j).mono ?_;rintro e w' ⟨l,m,k,g1,g2,_⟩;exact⟨l,⟨m,_,k,K,g1,g2,i,p,o,fun _ e=>e.elim⟩,fun _ e=>e.elim⟩
theorem BK{x:ByteArray}(h:HX W B b q w X)(hq:q<=4800000000000)(s:W.heap.size<=B)(k:x.size<=1048576):
  Calls Tryz.prog 13 #[pt b,.string x] w (Tru W B b (q+16) w (fun _=>False)):=by
 obtain⟨who,n,f,K,d,i,l,h4,a,_⟩:=h;refine(C5 W B w b who n f K x d i s k l (by omega) (fun c hc=>by have:=a c hc;omega)).mono ?_;rintro e w' ⟨o,p,m,r,g1,g2,j⟩;exact⟨o,⟨p,_,m,r,g1,g2,by omega,by omega,fun c hc=>by have:=j c hc;have:=a c hc;omega,fun _ e=>e.elim⟩,fun _ e=>e.elim⟩
end
end
section
def yT(x:Value):Prop:=∀ n c,x= .slice none n c->n=0/\c=0
def DS(W:World)(pv:Value):Prop:=∀ g o n cap t rv,pv= .agg #[.slice (some ⟨g,o,none⟩) n cap]->t<n->W.cell? ⟨g,o+t,none⟩=some rv->yT rv
end
section
open Go.ChangeShapes Go.WideShapes Go.ChangeAt Go.RowKit
theorem own:ownKnob Tryz.prog.godebug=none:=by kernel_rfl
theorem pV:laidOutB Tryz.prog=true:=by kernel_rfl
theorem Gm:Tryz.prog.globalNamed "rerun/machine.shapes" =some 0:=by kernel_rfl
theorem Gk:(Tryz.prog.globals[0]?).map (·.type)=some 236:=by kernel_rfl
theorem Gd:Tryz.prog.cellsOf 3=1:=by kernel_rfl
theorem Gh:Tryz.prog.cellsOf 39=1:=by kernel_rfl
theorem Fw:Tryz.prog.cellsOf 235=3:=by kernel_rfl
theorem Cw:Tryz.prog.cellsOf 233=1:=by kernel_rfl
theorem wY{w w':World}(h:w.grownBy w' none):Below w.heap.size w w':=⟨h.os,h.tape,h.output,h.size,fun k hk=>h.block k hk (by simp)⟩
theorem DF{w:World}{a:Addr}{v:Value}(h:w.cell? a=some v):a.block<w.heap.size:=by
 unfold World.cell? at h;split at h
 ·rename_i hh;exact(Array.getElem?_eq_some_iff.1 hh).1
 ·cases h
theorem kD{w:World}{a:Addr}{j:Nat}{v:Value}(c:a.spot=none)(h:w.cell? (a.add j)=some v):w.cell? ⟨a.block,a.off+j,none⟩=some v:=by
 have e:a.add j=⟨a.block,a.off+j,none⟩:=by
  obtain⟨b,o,s⟩:=a;simp only at c;subst c;unfold Addr.add;split<;>simp_all
 rw [e]at h;exact h
section
variable {H : Type} {enc : TypeId × Value -> H} {W : World}
theorem Ed{v:Value}{d:DataW H}{b:List MemPlace}{base:Nat}(a:Value.okWide Tryz.prog W .any base 3 v)(h:DataW.Trod enc Tryz.prog W 0 (fun _=>true) true 3 v d b):
  ∃ n,v= .int .i64 n/\oT n:=by
 obtain⟨n,rfl,_,_,c⟩:=open_int Tryz.underlying3 a h;exact⟨n,rfl,by simpa [Lit.wf,IntKind.min,IntKind.max,IntKind.signed,IntKind.bits,oT]using c⟩
end
theorem Ds(o j:Nat)(ho:o<12)(hj:j<3)(l:List (DataW Unit))(h:(DataW.agg l:DataW Unit)=(match (Rows.laid_rerun_machine_shapes:DataW Unit)with | .agg l=>l[o]?.getD .nil | _=> .nil)):l[j]?=some (.lit (.int .i64 (shp o j))):=by
 have b:o=0\/o=1\/o=2\/o=3\/o=4\/o=5\/o=6\/o=7\/o=8\/o=9\/o=10\/o=11:=by omega
 have a:j=0\/j=1\/j=2:=by omega
 rcases b with rfl | rfl | rfl | rfl | rfl | rfl | rfl | rfl | rfl | rfl | rfl | rfl<;>(simp [Rows.laid_rerun_machine_shapes]at h;subst h;rcases a with rfl | rfl | rfl<;>rfl)
theorem Ep{W:World}{s:Nat}{i:TypeId}{b:Array Value}{w:Nat}{I:List MemPlace}(m:Tryz.prog.globalNamed "rerun/machine.shapes" =some s)(u:(Tryz.prog.globals[s]?).map (·.type)=some i)(B:W.var? Tryz.prog "rerun/machine.shapes" =some b)
  (v:DataW.trod (fun _=>()) Tryz.prog W 0 (fun _=>true) false w i b.toList=some (Rows.laid_rerun_machine_shapes,I)):ShpAt W:=by
 obtain rfl:=Option.some.inj (Gm.symm.trans m);obtain rfl:=Option.some.inj (Gk.symm.trans u);obtain⟨xs,m1,rfl,q,hlen,hn12,z⟩:=DataW.trod_array Tryz.underlying236 v;simp only [Prod.mk.injEq]at q;intro o j p f;have d:o<xs.length:=by omega
 have n:=z o p;rw [Fw,List.getElem?_eq_getElem d]at n;obtain⟨a,t,rfl,C,hylen,D,e⟩:=DataW.trod_struct Tryz.underlying235 n;have H:(DataW.agg (a.map (·.1)):DataW Unit)=xs[o].1:=by rw [C]
 have hxo:(xs.map (·.1))[o]?=some xs[o].1:=by simp [d]
 have A:(DataW.agg (a.map (·.1)):DataW Unit)=(match (Rows.laid_rerun_machine_shapes:DataW Unit)with | .agg l=>l[o]?.getD .nil | _=> .nil):=by
  rw [H,q.1];simp [d]
 have h:=Ds o j p f _ A;have c:j<a.length:=by rw [D];simpa using f
 have J:DataW.trod (fun _=>()) Tryz.prog W 0 (fun _=>true) false t 233 ((((b.toList.drop (o*3)).take 3).drop j).take 1)=some a[j]:=by
  have E:j=0\/j=1\/j=2:=by omega
  rcases E with rfl | rfl | rfl
  ·have:=e 0 _ rfl;rw [List.getElem?_eq_getElem c]at this;simpa [Cw]using this
  ·have:=e 1 _ rfl;rw [List.getElem?_eq_getElem c]at this;simpa [Cw]using this
  ·have:=e 2 _ rfl;rw [List.getElem?_eq_getElem c]at this;simpa [Cw]using this
 obtain⟨k,G,y,_⟩:=DataW.trod_int Tryz.underlying233 J;have F:k=shp o j:=by
  rw [List.getElem?_map,List.getElem?_eq_getElem c,y]at h;simpa using h
 have x:=World.var?_cell m B (o*3+j);have hc:b[o*3+j]?=some (.int .i64 k):=by
  have r:=congrArg (fun l=>l[0]?) G;simp [f]at r;exact r
 rw [F]at hc;rw [x];exact hc
end
section
open Go.ChangeShapes Go.WideShapes Go.ChangeAt Go.RowKit Go.Joins
theorem zI{H:Type}(d:DataW H):1<=Rows.uptoBulk d:=by
 cases d with
 | lit l=>cases l<;>simp [Rows.uptoBulk]
 | nil=>simp [Rows.uptoBulk]
 | ptr d=>simp [Rows.uptoBulk]
 | slice elems spare=>simp [Rows.uptoBulk]
 | agg parts=>simp [Rows.uptoBulk]
 | iface t d=>simp [Rows.uptoBulk]
 | map entries=>simp [Rows.uptoBulk]
 | held h=>simp [Rows.uptoBulk]
theorem qF{H:Type}(l:List (DataW H)):l.length<=Rows.uptoBulkAll l:=by
 induction l with
 | nil=>simp [Rows.uptoBulkAll]
 | cons x r ih=>have:=zI x;simp only [Rows.uptoBulkAll,List.length_cons];omega
theorem vw{H:Type}(l:List (DataW H))(d:DataW H)(h:d∈l):Rows.uptoBulk d<=Rows.uptoBulkAll l:=by
 induction l with
 | nil=>cases h
 | cons x r ih=>
  simp only [Rows.uptoBulkAll];rcases List.mem_cons.1 h with rfl | h
  ·omega
  ·have:=ih h;omega
theorem FZ:Tryz.prog.cellsOf 65=4:=by kernel_rfl
theorem FY:Tryz.prog.cellsOf 66=1:=by kernel_rfl
theorem F3:Tryz.prog.cellsOf 35=1:=by kernel_rfl
theorem FW:Tryz.prog.cellsOf 37=1:=by kernel_rfl
section
variable {H : Type} {enc : TypeId × Value -> H} {W : World}
theorem FE{fuel:Nat}{cs:List Value}{x:DataW H × List MemPlace}(h:DataW.trod enc Tryz.prog W 0 (fun _=>true) true fuel 65 cs=some x):∃ i:Ins,cs=[.int .i64 i.op,.int .i64 i.a,.int .i64 i.b,.int .i64 i.n]/\oT i.n:=by
 obtain⟨y0,y1,y2,y3,n,_,o,l,c,d,f⟩:=trod_struct4 Tryz.underlying65 h;rw [FZ]at o;match cs,o with
 | [v0,v1,v2,v3],_=>
  simp only [Gd,List.drop_zero,List.drop_succ_cons,List.take_succ_cons,List.take_zero]at l c d f;obtain⟨k0,k,_⟩:=DataW.trod_int Tryz.underlying3 l;obtain⟨k1,e,_⟩:=DataW.trod_int Tryz.underlying3 c;obtain⟨k2,j,_⟩:=DataW.trod_int Tryz.underlying3 d;obtain⟨p,m,_,q⟩:=DataW.trod_int Tryz.underlying3 f;simp only [List.cons.injEq,and_true]at k e j m;subst k e j m;exact⟨⟨k0,k1,k2,p⟩,rfl,by simpa [Lit.wf,IntKind.min,IntKind.max,IntKind.signed,IntKind.bits,oT]using q⟩
theorem AV{fuel:Nat}{v:Value}{x:DataW H × List MemPlace}(h:DataW.trod enc Tryz.prog W 0 (fun _=>true) true fuel 66 [v]=some x):∃ c,CodeAt W v c/\yT v/\c.length<=Rows.uptoBulk x.1/\∀ i∈c,oT i.n:=by
 rcases Deep.open_slice Tryz.underlying66 h with ⟨e,_⟩ | ⟨a,len,cap,m,n,D,Pl,e,_,hl,_,hm,hx,hel⟩
 ·simp only [List.cons.injEq,and_true]at e;subst e;exact⟨[],⟨none,0,rfl,fun k l=>by simp at l⟩,fun n c e=>by simp at e;omega,by simp,fun i hi=>by cases hi⟩
 ·simp only [List.cons.injEq,and_true]at e;subst e;simp only [if_true]at hm;rw [FZ]at hel;have hinh:Inhabited Ins:=⟨⟨0,0,0,0⟩⟩;obtain⟨f,t⟩:=Deep.choose_lt (α:=Ins) (n:=len) (p:=fun k i=>W.cell? (a.add (k*4))=some (.int .i64 i.op)/\W.cell? (a.add (k*4+1))=some (.int .i64 i.a)/\W.cell? (a.add (k*4+2))=some (.int .i64 i.b)/\W.cell? (a.add (k*4+3))=some (.int .i64 i.n)/\oT i.n) (fun k l=>by
   obtain⟨cs',q,r⟩:=hel k (by omega);obtain⟨i,rfl,z⟩:=FE r;obtain⟨_,_,d⟩:=World.cells?_some q;refine⟨i,?_,?_,?_,?_,z⟩
   ·have:=d 0 (by omega);rw [Deep.add_add]at this;simpa using this
   ·have:=d 1 (by omega);rw [Deep.add_add]at this;simpa using this
   ·have:=d 2 (by omega);rw [Deep.add_add]at this;simpa using this
   ·have:=d 3 (by omega);rw [Deep.add_add]at this;simpa using this)
  have u:((List.range len).map f).length=len:=by simp
  refine⟨(List.range len).map f,⟨some a,cap,by rw [u],fun k l=>?_⟩,fun n c e=>by simp at e,?_,fun i hi=>?_⟩
  ·have y:k<len:=by omega
   obtain⟨A,q,r,d,_⟩:=t k y;have j:a.spot=none:=by
    have:=(t 0 (by omega)).1;exact World.cell?_spot (w:=W) (by simpa [Addr.add]using this)
   refine⟨a.block,a.off,?_,?_,?_,?_,?_⟩
   ·obtain⟨b,o,s⟩:=a;simp only at j;subst j;rfl
   ·simpa using kD j A
   ·simpa [Nat.add_assoc]using kD j q
   ·simpa [Nat.add_assoc]using kD j r
   ·simpa [Nat.add_assoc]using kD j d
  ·rw [u,hx];have:=qF ((List.range len).map D);simp only [Rows.uptoBulk];simp at this;omega
  ·obtain⟨k,l,rfl⟩:=List.mem_map.1 hi;exact(t k (by simpa using l)).2.2.2.2
theorem Ab{fuel:Nat}{v:Value}{x:DataW H × List MemPlace}(h:DataW.trod enc Tryz.prog W 0 (fun _=>true) true fuel 35 [v]=some x):
  ∃ p,ProgAt W (.agg #[v]) p/\DS W (.agg #[v])/\p.length<=Rows.uptoBulk x.1/\∀ c∈p,c.length<=Rows.uptoBulk x.1/\∀ i∈c,oT i.n:=by
 rcases Deep.open_slice1 Tryz.underlying35 FY h with ⟨e,_⟩ | ⟨a,len,cap,m,n,V,D,Pl,e,_,hl,_,hm,hx,hel⟩
 ·simp only [List.cons.injEq,and_true]at e;subst e;exact⟨[],⟨none,0,rfl,fun k d=>by simp at d⟩,fun g o n cap t rv e=>by simp at e,by simp,fun c hc=>by cases hc⟩
 ·simp only [List.cons.injEq,and_true]at e;subst e;simp only [if_true]at hm;obtain⟨f,r⟩:=Deep.choose_lt (α:=List Ins) (n:=len) (p:=fun k c=>CodeAt W (V k) c/\yT (V k)/\c.length<=Rows.uptoBulk (D k)/\∀ i∈c,oT i.n) (fun k d=>AV (hel k (by omega)).2);have u:((List.range len).map f).length=len:=by simp
  have y:0<len->a.spot=none:=fun j=>by
   have:=(hel 0 (by omega)).1;exact World.cell?_spot (w:=W) (by simpa [Addr.add]using this)
  have hall:len+0<=Rows.uptoBulkAll ((List.range len).map D):=by
   have:=qF ((List.range len).map D);simp at this;omega
  refine⟨(List.range len).map f,⟨some a,cap,by rw [u],fun k d=>?_⟩,fun g o n cp t rv e ht hc=>?_,?_,fun c hc=>?_⟩
  ·have q:k<len:=by omega
   have j:=y (by omega);refine⟨a.block,a.off,?_,V k,kD j (hel k (by omega)).1,?_⟩
   ·obtain⟨b,o,s⟩:=a;simp only at j;subst j;rfl
   ·simpa using (r k q).1
  ·simp only [Value.agg.injEq,Array.mk.injEq,List.cons.injEq,Value.slice.injEq,Option.some.injEq,and_true]at e;obtain⟨rfl,rfl,rfl⟩:=e;have l:=kD rfl (hel t (by omega)).1;simp only at l;rw [l]at hc;simp only [Option.some.injEq]at hc;rw [<-hc];exact(r t ht).2.1
  ·rw [u,hx];simp only [Rows.uptoBulk];omega
  ·obtain⟨k,d,rfl⟩:=List.mem_map.1 hc;have q:k<len:=by simpa using d
   obtain⟨l,z⟩:=(r k q).2.2;have h2:=vw ((List.range len).map D) (D k) (List.mem_map.2 ⟨k,d,rfl⟩);refine⟨?_,z⟩;rw [hx];simp only [Rows.uptoBulk];omega
end
section
variable {H : Type} {enc : TypeId × Value -> H} {W : World}
theorem BY{fuel:Nat}{v:Value}{x:DataW H × List MemPlace}(h:DataW.trod enc Tryz.prog W 0 (fun _=>true) true fuel 39 [v]=some x):∃ l,IntsAt W.heap.size W v l/\yT v/\l.length<=Rows.uptoBulk x.1:=by
 rcases open_ints Tryz.underlying39 Tryz.underlying3 Gd h with ⟨e,_⟩ | ⟨a,len,cap,zs,e,_,hl,_,hz,hx,hc,hw⟩
 ·simp only [List.cons.injEq,and_true]at e;subst e;exact⟨[],⟨none,0,rfl,Nat.le_refl _,fun k hk=>by simp at hk⟩,fun n c e=>by simp at e;omega,by simp⟩
 ·simp only [List.cons.injEq,and_true]at e;subst e;simp only [if_true]at hz;have i:(zs.take len).length=len:=by simp;omega
  refine⟨zs.take len,⟨some a,cap,by rw [i],by omega,fun k hk=>?_⟩,fun n c e=>by simp at e,?_⟩
  ·have d:a.spot=none:=by
    have:=hc 0 (by omega);exact World.cell?_spot (w:=W) (by simpa [Addr.add]using this)
   have f:k<zs.length:=by omega
   have:=hc k f;refine⟨a.block,a.off,?_,DF (a:=⟨a.block,a.off+k,none⟩) (kD d this),?_⟩
   ·obtain⟨b,o,s⟩:=a;simp only at d;subst d;rfl
   ·rw [kD d this];simp [List.getD,f]
  ·rw [hx];have:=qF (lits (H:=H) .i64 (zs.take len));have hll:(lits (H:=H) .i64 (zs.take len)).length=(zs.take len).length:=by simp [lits]
   simp only [Rows.uptoBulk];omega
theorem CY{fuel:Nat}{v:Value}{x:DataW H × List MemPlace}(h:DataW.trod enc Tryz.prog W 0 (fun _=>true) true fuel 37 [v]=some x):
  ∃ p,ProgAt W (.agg #[v]) p/\p.length<=Rows.uptoBulk x.1/\(∀ c∈p,c.length<=Rows.uptoBulk x.1/\∀ i∈c,oT i.n)/\2<=Rows.uptoBulk x.1:=by
 obtain⟨a,n,e,hl,f⟩:=trod_struct1 Tryz.underlying37 h;have k:DataW.trod enc Tryz.prog W 0 (fun _=>true) true n 35 [v]=some a:=by simpa [F3]using f
 obtain⟨p,d,_,h3,b⟩:=Ab k;have j:x.1= .agg [a.1]:=congrArg Prod.fst e;have hb:Rows.uptoBulk a.1+1<=Rows.uptoBulk x.1:=by
  rw [j];simp only [Rows.uptoBulk,Rows.uptoBulkAll];omega
 have:=zI a.1;exact⟨p,d,by omega,fun c hc=>⟨by have:=(b c hc).1;omega,(b c hc).2⟩,by omega⟩
end
theorem Gl:Tryz.prog.cellsOf 9=1:=by kernel_rfl
theorem CA{H:Type}(l:List (DataW H))(h:∀ d∈l,2<=Rows.uptoBulk d):2*l.length<=Rows.uptoBulkAll l:=by
 induction l with
 | nil=>simp [Rows.uptoBulkAll]
 | cons x r ih=>
  have h1:=h x List.mem_cons_self;have h2:=ih fun d hd=>h d (List.mem_cons_of_mem _ hd)
  simp only [Rows.uptoBulkAll,List.length_cons];omega
def ProgsAt(W:World)(v:Value)(P:List (List (List Ins))):Prop:=
 ∃ ao cap,v= .slice ao P.length cap/\∀ i (hi:i<P.length),∃ g o,ao=some ⟨g,o,none⟩/\∃ rv,W.cell? ⟨g,o+i,none⟩=some rv/\ProgAt W (.agg #[rv]) P[i]
def SchsAt(W:World)(v:Value)(S:List (List Int)):Prop:=
 ∃ ao cap,v= .slice ao S.length cap/\∀ i (hi:i<S.length),∃ g o,ao=some ⟨g,o,none⟩/\∃ rv,W.cell? ⟨g,o+i,none⟩=some rv/\IntsAt W.heap.size W rv S[i]/\yT rv
section
variable {H : Type} {enc : TypeId × Value -> H} {W : World}
theorem rh{a:Addr}{v:Value}(h:W.cell? (a.add 0)=some v):a=⟨a.block,a.off,none⟩:=by
 have c:a.spot=none:=World.cell?_spot (w:=W) (by simpa [Addr.add]using h);obtain⟨b,o,s⟩:=a;simp only at c;subst c;rfl
theorem Ai{v:Value}{d:DataW H}{x:List MemPlace}{base:Nat}(u:Value.okWide Tryz.prog W .any base 22 v)(h:DataW.Trod enc Tryz.prog W 0 (fun _=>true) true 22 v d x):
  ∃ P,ProgsAt W v P/\2*P.length<=Rows.uptoBulk d/\∀ p∈P,p.length<=Rows.uptoBulk d/\∀ c∈p,c.length<=Rows.uptoBulk d/\∀ i∈c,oT i.n:=by
 obtain⟨a0,len0,cap0,rfl⟩:=okWide_slice Tryz.underlying22 u;obtain⟨fuel,w⟩:=h;rcases Deep.open_slice1 Tryz.underlying22 FW w with ⟨e,_⟩ | ⟨a,len,cap,m,n,V,D,Pl,e,_,hl,_,hm,hx,hel⟩
 ·simp [Value.cells]at e;rw [e.1,e.2.1,e.2.2];exact⟨[],⟨none,0,rfl,fun k b=>by simp at b⟩,by simp,fun p hp=>by cases hp⟩
 ·simp [Value.cells]at e;rw [e.1,e.2.1,e.2.2];simp only [if_true]at hm;obtain⟨f,o⟩:=Deep.choose_lt (α:=List (List Ins)) (n:=len) (p:=fun k p=>ProgAt W (.agg #[V k]) p/\p.length<=Rows.uptoBulk (D k)/\(∀ c∈p,c.length<=Rows.uptoBulk (D k)/\∀ i∈c,oT i.n)/\2<=Rows.uptoBulk (D k)) (fun k b=>CY (hel k (by omega)).2);have r:((List.range len).map f).length=len:=by simp
  have l:d= .slice ((List.range len).map D) ((List.range (m - len)).map fun j=>D (len+j)):=congrArg Prod.fst hx;refine⟨(List.range len).map f,⟨some a,cap,by rw [r],fun k b=>?_⟩,?_,fun p hp=>?_⟩
  ·have t:k<len:=by omega
   have s:=rh (hel 0 (by omega)).1;refine⟨a.block,a.off,by rw [<-s],V k,kD (by rw [s]) (hel k (by omega)).1,?_⟩;simpa using (o k t).1
  ·rw [r,l];have:=CA ((List.range len).map D) (fun d l=>by
    obtain⟨k,b,rfl⟩:=List.mem_map.1 l;exact(o k (by simpa using b)).2.2.2)
   simp only [Rows.uptoBulk];simp at this;omega
  ·obtain⟨k,b,rfl⟩:=List.mem_map.1 hp;obtain⟨_,h1,q,_⟩:=o k (by simpa using b);have h3:=vw ((List.range len).map D) (D k) (List.mem_map.2 ⟨k,b,rfl⟩);have h4:Rows.uptoBulk (D k)<=Rows.uptoBulk d:=by
    rw [l];simp only [Rows.uptoBulk];omega
   exact⟨by omega,fun c hc=>⟨by have:=(q c hc).1;omega,(q c hc).2⟩⟩
theorem C6{v:Value}{d:DataW H}{w:List MemPlace}{base:Nat}(t:Value.okWide Tryz.prog W .any base 23 v)(h:DataW.Trod enc Tryz.prog W 0 (fun _=>true) true 23 v d w):
  ∃ S,SchsAt W v S/\S.length<=Rows.uptoBulk d/\∀ s∈S,s.length<=Rows.uptoBulk d:=by
 obtain⟨a0,len0,cap0,rfl⟩:=okWide_slice Tryz.underlying23 t;obtain⟨fuel,u⟩:=h;rcases Deep.open_slice1 Tryz.underlying23 Gh u with ⟨e,_⟩ | ⟨a,len,cap,m,n,V,D,Pl,e,_,hl,_,hm,hx,hel⟩
 ·simp [Value.cells]at e;rw [e.1,e.2.1,e.2.2];exact⟨[],⟨none,0,rfl,fun k b=>by simp at b⟩,by simp,fun p hp=>by cases hp⟩
 ·simp [Value.cells]at e;rw [e.1,e.2.1,e.2.2];simp only [if_true]at hm;obtain⟨f,c⟩:=Deep.choose_lt (α:=List Int) (n:=len) (p:=fun k l=>IntsAt W.heap.size W (V k) l/\yT (V k)/\l.length<=Rows.uptoBulk (D k)) (fun k b=>BY (hel k (by omega)).2);have o:((List.range len).map f).length=len:=by simp
  have q:d= .slice ((List.range len).map D) ((List.range (m - len)).map fun j=>D (len+j)):=congrArg Prod.fst hx;refine⟨(List.range len).map f,⟨some a,cap,by rw [o],fun k b=>?_⟩,?_,fun p hp=>?_⟩
  ·have i:k<len:=by omega
   have r:=rh (hel 0 (by omega)).1;refine⟨a.block,a.off,by rw [<-r],V k,kD (by rw [r]) (hel k (by omega)).1,?_,(c k i).2.1⟩;simpa using (c k i).1
  ·rw [o,q];have:=qF ((List.range len).map D);simp only [Rows.uptoBulk];simp at this;omega
  ·obtain⟨k,b,rfl⟩:=List.mem_map.1 hp;obtain⟨_,_,h1⟩:=c k (by simpa using b);have h3:=vw ((List.range len).map D) (D k) (List.mem_map.2 ⟨k,b,rfl⟩);have h4:Rows.uptoBulk (D k)<=Rows.uptoBulk d:=by
    rw [q];simp only [Rows.uptoBulk];omega
   omega
theorem xD{v:Value}{d:DataW H}{y:List MemPlace}{base:Nat}(t:Value.okWide Tryz.prog W .any base 24 v)(h:DataW.Trod enc Tryz.prog W 0 (fun _=>true) true 24 v d y):
  ∃ L,StrsAt W v L/\L.length<=Rows.uptoBulk d/\∀ x∈L,x.size<=Rows.uptoBulk d:=by
 obtain⟨a0,len0,cap0,rfl⟩:=okWide_slice Tryz.underlying24 t;obtain⟨fuel,w⟩:=h;rcases Deep.open_slice1 Tryz.underlying24 Gl w with ⟨e,_⟩ | ⟨a,len,cap,m,n,V,D,Pl,e,_,hl,_,hm,hx,hel⟩
 ·simp [Value.cells]at e;rw [e.1,e.2.1,e.2.2];exact⟨[],⟨none,0,rfl,fun k b=>by simp at b⟩,by simp,fun p hp=>by cases hp⟩
 ·simp [Value.cells]at e;rw [e.1,e.2.1,e.2.2];simp only [if_true]at hm;have hinh:Inhabited ByteArray:=⟨⟨#[]⟩⟩;obtain⟨f,q⟩:=Deep.choose_lt (α:=ByteArray) (n:=len) (p:=fun k x=>V k= .string x/\x.size<=Rows.uptoBulk (D k)) (fun k b=>by
   obtain⟨x,c,s,_⟩:=DataW.trod_string Tryz.underlying9 (hel k (by omega)).2;simp only [List.cons.injEq,and_true]at c;refine⟨x,c,?_⟩;have u:D k= .lit (.string x.data.toList):=congrArg Prod.fst s;rw [u];simp only [Rows.uptoBulk];have:x.data.toList.length=x.size:=by simp
   omega)
  have i:((List.range len).map f).length=len:=by simp
  have l:d= .slice ((List.range len).map D) ((List.range (m - len)).map fun j=>D (len+j)):=congrArg Prod.fst hx;refine⟨(List.range len).map f,⟨some a,cap,by rw [i],fun k b=>?_⟩,?_,fun p hp=>?_⟩
  ·have r:k<len:=by omega
   have o:=rh (hel 0 (by omega)).1;refine⟨a.block,a.off,by rw [<-o],?_⟩;have:=kD (by rw [o]) (hel k (by omega)).1;rw [(q k r).1]at this;simpa using this
  ·rw [i,l];have:=qF ((List.range len).map D);simp only [Rows.uptoBulk];simp at this;omega
  ·obtain⟨k,b,rfl⟩:=List.mem_map.1 hp;obtain⟨_,h1⟩:=q k (by simpa using b);have h3:=vw ((List.range len).map D) (D k) (List.mem_map.2 ⟨k,b,rfl⟩);have h4:Rows.uptoBulk (D k)<=Rows.uptoBulk d:=by
    rw [l];simp only [Rows.uptoBulk];omega
   omega
end
end
section
open Go.RowKit
theorem ze:iC qv [0]=0:=by decide+kernel
theorem Bk:(iI qv [0]).kind=5/\(iI qv [0]).steps.length=1:=by decide+kernel
theorem yk:iU qv=true:=by decide+kernel
theorem zX{w:World}{g:Nat}{ty:TypeId}(h:w.heap[g]?=some (.cells #[.int .i64 0] ty (0,0))):IntsAt w.heap.size w (.slice (some ⟨g,0,none⟩) 1 1) [0]:=by
 refine⟨some ⟨g,0,none⟩,1,rfl,Nat.le_refl _,fun k hk=>⟨g,0,rfl,(Array.getElem?_eq_some_iff.1 h).1,?_⟩⟩;simp only [World.cell?,h];have hk':k<1:=hk;obtain rfl:k=0:=by omega
 rfl
theorem Ae{B:Nat}{w:World}{rv:Value}{c:Int}(h:ResV qv [0] B w rv c):c=0/\∃ t a x1 x3 v0 v1 v2 v3 y1 q y3,rv= .agg #[.int .i64 5,.int .i64 t,.int .i64 a,.slice x1 1 x3,.int .i64 v0,.int .i64 v1,.int .i64 v2,.int .i64 v3,.slice y1 q y3]:=by
 obtain⟨k,t,a,v0,v1,v2,v3,x1,x3,y1,y3,m,q,rfl,hc,d⟩:=h;rw [ze]at hc;rcases d with ⟨_,h1,_,_,_,_,_,_,h5,_⟩ | ⟨h0,_⟩
 ·obtain⟨b,e⟩:=Bk;rw [b]at h1;rw [e]at h5;subst h1 h5;exact⟨hc,_,_,_,_,_,_,_,_,_,_,_,rfl⟩
 ·exact absurd hc h0
theorem Em{x y:Nat}(h:x+y<=1048576):x*y<=274877906944:=by
 have key:∀ u d:Nat,u+d=524288->u*(524288+d)<=274877906944:=fun u d e=>by
  have h1:(u+d)*(u+d)=274877906944:=by rw [e]
  have h2:u*(524288+d)=u*(u+d)+u*d:=by rw [<-e,Nat.mul_add u (u+d) d]
  have h3:(u+d)*(u+d)=u*(u+d)+d*(u+d):=Nat.add_mul _ _ _;have h4:d*(u+d)=u*d+d*d:=by rw [Nat.mul_add,Nat.mul_comm d u]
  omega
 by_cases hx:x<=524288
 ·exact Nat.le_trans (Nat.mul_le_mul_left x (by omega:y<=524288+(524288 - x))) (key x (524288 - x) (by omega))
 ·rw [Nat.mul_comm];exact Nat.le_trans (Nat.mul_le_mul_left y (by omega:x<=524288+(524288 - y))) (key y (524288 - y) (by omega))
theorem Dw{p s b t:Nat}(h:2*p+s+b+t<=1048576):32*(p*s+b+t)<=4500000000000:=by
 have a:=Em (x:=2*p) (y:=s) (by omega);rw [Nat.mul_assoc]at a;omega
theorem ProgsAt.pres{w w':World}{v:Value}{P:List (List (List Ins))}(h:ProgsAt w v P)(a:Pres w w'):ProgsAt w' v P:=by
 obtain⟨f,b,e,hc⟩:=h;exact⟨f,b,e,fun i hi=>by obtain⟨g,o,j,rv,c,d⟩:=hc i hi;exact⟨g,o,j,rv,a _ _ c,d.pres a⟩⟩
theorem SchsAt.grown{w w':World}{v:Value}{S:List (List Int)}(h:SchsAt w v S)(a:w.grownBy w' none):SchsAt w' v S:=by
 obtain⟨f,b,e,hc⟩:=h;exact⟨f,b,e,fun i hi=>by obtain⟨g,o,j,rv,c,d,n⟩:=hc i hi;exact⟨g,o,j,rv,ip a _ _ c,(d.pres (ip a)).mono a.size,n⟩⟩
theorem ProgsAt.get{w:World}{f:Option Addr}{k:Nat}{P:List (List (List Ins))}(h:ProgsAt w (.slice f P.length k) P){i:Nat}(j:i<P.length):∃ g o,f=some ⟨g,o,none⟩/\∃ a c,w.cell? ⟨g,o+i,none⟩=some (.slice a P[i].length c)/\ProgAt w (.agg #[.slice a P[i].length c]) P[i]:=by
 obtain⟨ao',cap',e,hc⟩:=h;simp only [Value.slice.injEq,true_and]at e;obtain⟨g,o,l,rv,c,d⟩:=hc i j;obtain⟨a,m,b⟩:=d.form;simp only [Value.agg.injEq,Array.mk.injEq,List.cons.injEq,and_true]at b;subst b;exact⟨g,o,by rw [e.1];exact l,a,m,c,d⟩
theorem SchsAt.get{w:World}{b:Option Addr}{j:Nat}{S:List (List Int)}(h:SchsAt w (.slice b S.length j) S){i:Nat}(f:i<S.length):∃ g o,b=some ⟨g,o,none⟩/\∃ a c,w.cell? ⟨g,o+i,none⟩=some (.slice a S[i].length c)/\IntsAt w.heap.size w (.slice a S[i].length c) S[i]/\yT (.slice a S[i].length c):=by
 obtain⟨ao',cap',e,hc⟩:=h;simp only [Value.slice.injEq,true_and]at e;obtain⟨g,o,k,rv,c,d,n⟩:=hc i f;obtain⟨a,m,l⟩:=d.form;subst l;exact⟨g,o,by rw [e.1];exact k,a,m,c,d,n⟩
theorem wP{w:World}{a:Option Addr}{d:Nat}{L:List ByteArray}(h:StrsAt w (.slice a L.length d) L){i:Nat}(b:i<L.length):∃ g o,a=some ⟨g,o,none⟩/\w.cell? ⟨g,o+i,none⟩=some (.string L[i]):=by
 obtain⟨ao',cap',e,hc⟩:=h;simp only [Value.slice.injEq,true_and]at e;obtain⟨g,o,f,c⟩:=hc i b;exact⟨g,o,by rw [e.1];exact f,c⟩
end
section
open Go.RowKit
attribute [local go_sem] Go.World.cell?_alloc_some
theorem nQ{w:World}{g:Nat}{x0:Value}{t:TypeId}(h:w.heap[g]?=some (.cells #[x0] t (0,0))):w.cell? ⟨g,0,none⟩=some x0:=by simp [World.cell?,h]
theorem C4{w:World}{g:Nat}{x0 x1 x2:Value}{t:TypeId}(h:w.heap[g]?=some (.cells #[x0,x1,x2] t (0,0))):w.cell? ⟨g,0,none⟩=some x0/\w.cell? ⟨g,1,none⟩=some x1/\w.cell? ⟨g,2,none⟩=some x2:=by simp [World.cell?,h]
theorem Gb(W:World)(pv sv bv tv:Value)(fuel:Int)(P:List (List (List Ins)))(S:List (List Int))(o r:List ByteArray)(hS:ShpAt W)(hT:Tab W)(hP:ProgsAt W pv P)(aY:SchsAt W sv S)(aF:StrsAt W bv o)(a3:StrsAt W tv r)(cx:fuel<=9223372036854775807)
  (hn:2*P.length+S.length+o.length+r.length<=1048576) (bz:∀ p∈P,p.length<=1048576/\∀ c∈p,c.length<=1048576/\∀ i∈c,BL i) (bw:∀ s∈S,s.length<=1048576) (bH:∀ x∈o,x.size<=1048576) (bx:∀ x∈r,x.size<=1048576):
  Calls Tryz.prog 3 #[pv,sv,bv,tv,.int .i64 fuel] W fun e w'=>e= .returned (.bool true)/\W.grownBy w' none:=by
 obtain⟨pao,pcap,cm⟩:∃ ao cap,pv= .slice ao P.length cap:=⟨_,_,hP.choose_spec.choose_spec.1⟩;obtain⟨sao,scap,cG⟩:∃ ao cap,sv= .slice ao S.length cap:=⟨_,_,aY.choose_spec.choose_spec.1⟩;obtain⟨bao,bcap,cw⟩:∃ ao cap,bv= .slice ao o.length cap:=⟨_,_,aF.choose_spec.choose_spec.1⟩;obtain⟨tao,tcap,c3⟩:∃ ao cap,tv= .slice ao r.length cap:=⟨_,_,a3.choose_spec.choose_spec.1⟩;subst cm cG cw c3;have bB:=ij (Dw hn);have HS:=ij hS;have HT:=ij hT;have HP:=ij hP;have HC:=ij aY;have bV:=ij aF;have cd:=ij a3;have cI:=ij bz;have aR:=ij bw;have ct:=ij bH;have cl:=ij bx;have H:∀ q,pt q= .pointer (some ⟨q,0,none⟩):=fun _=>rfl
 have hl1:(P.length:Int)<=1048576:=by omega
 have hl2:(S.length:Int)<=1048576:=by omega
 have hl3:(o.length:Int)<=1048576:=by omega
 have hl4:(r.length:Int)<=1048576:=by omega
 clear hS hT hP aY aF a3 bz bw bH bx hn;go_enter Tryz.func3,Tryz.ntmps3
 go_wp2_with fail
 refine(ue _).mono ?_;rintro e w1 ⟨cv,rfl,J,bK⟩;have a4:Hid (W.grownBy w1 none):=bK;have b4:=ij J;obtain⟨bF,bh,aS⟩:=J.form;subst aS;clear bK J;go_wp2_with fail
 obtain⟨O,am⟩:∃ O,O=w1.alloc (.cells #[.int .i64 0] 3):=⟨_,rfl⟩;rw [<-am];have al:Hid (w1.grownBy O none):=by unfold Hid;rw [am];exact iq (ir _ _)
 have bM:Hid (IntsAt O.heap.size O (.slice (some ⟨w1.heap.size,0,none⟩) 1 1) [0]):=by
  unfold Hid;rw [am];exact zX (heap_alloc_new w1 _)
 clear am;refine(xp qv [0] _ _ O (HS.out.pres (ip (il a4.out al.out))) (b4.out.pres (ip al.out)) bM.out).mono ?_;intro e w3 hR;obtain⟨b2,rv,c,he,hV⟩:=hR.form;clear hR;subst he;obtain⟨cM,t5,a5,x1,x3,v0,v1,v2,v3,y1,yq,y3,cp⟩:=Ae hV;clear hV;subst cM cp;have bI:Hid (W.grownBy w3 none):=il a4.out (il al.out b2);clear b2 b4 bM al a4;go_upto_region 2 with fail
 obtain⟨f,aC⟩:∃ f,f=w3.alloc (.cells #[.int .i64 5,.int .i64 t5,.int .i64 a5,.slice x1 1 x3,.int .i64 v0,.int .i64 v1,.int .i64 v2,.int .i64 v3,.slice y1 yq y3] 31):=⟨_,rfl⟩;have ci:f.heap[w3.heap.size]?=some (.cells #[.int .i64 5,.int .i64 t5,.int .i64 a5,.slice x1 1 x3,.int .i64 v0,.int .i64 v1,.int .i64 v2,.int .i64 v3,.slice y1 yq y3] 31 (0,0)):=by rw [aC];exact heap_alloc_new w3 _
 rw [<-aC];have K:Hid (W.grownBy f none):=by unfold Hid;rw [aC];exact iq bI.out
 clear aC bI;obtain⟨r0,r1,r2,r3,r4,_,_,_,_,_⟩:=kw ci;clear ci;go_upto_region 5 with fail
 clear r0 r1 r2 r3 r4;obtain⟨w5,aq⟩:∃ w5,w5=f.alloc (.cells (hcl f00) 45):=⟨_,rfl⟩;have bl:f.alloc (.cells #[.slice none 0 0,.slice none 0 0,.slice none 0 0,.slice none 0 0,.slice none 0 0,.int .i64 0,.slice none 0 0,.slice none 0 0,.slice none 0 0,.slice none 0 0,.slice none 0 0,.slice none 0 0,.slice none 0 0,.slice none 0 0,.slice none 0 0,.slice none 0 0] 45)=w5:=by rw [aq];rfl
 rw [bl];have aT:Hid (HX f f.heap.size f.heap.size 0 w5 (fun _=>False)):=HX.start (by rw [aq];exact heap_alloc_new f _) (by rw [aq];exact iq (ir _ _));clear aq bl;have R:=ij (HS.out.pres (ip K.out));have cQ:=ij (HT.out.grown K.out);have c2:=ij (HP.out.pres (ip K.out));have aQ:=ij (HC.out.grown K.out);have cD:=ij (bV.out.pres (ip K.out));have c9:=ij (cd.out.pres (ip K.out));clear HS HT HP HC bV cd;obtain⟨b,hb⟩:∃ b,b=f.heap.size:=⟨_,rfl⟩;rw [<-hb]at aT ⊢;have F:Hid (f.heap.size<=b):=by unfold Hid;omega
 clear hb;obtain⟨y,aL⟩:∃ t,t=P.length*S.length+o.length+r.length:=⟨_,rfl⟩;rw [<-aL]at bB;have bk:=ij aL;clear aL;go_wp2_with fail
 go_loopw [14,15] (fun okv av w'=>∃ a:Nat,a<=2/\okv= .bool true/\av= .int .i64 a/\Hid (HX f b b (16*(a*y)) w' (fun _=>False))) (fun _ av _=>2 - (intOf av).toNat)
 case atStart=>exact⟨0,by omega,rfl,rfl,by rw [Nat.zero_mul];exact aT⟩
 case round=>
  clear aT;obtain⟨a,ha,rfl,rfl,HA⟩:=hrel;obtain⟨wa,cj⟩:∃ wa,wa=wr:=⟨_,rfl⟩;rw [<-cj]at HA ⊢;clear cj;by_cases hlt:a<2
  ·have q1:(a:Int)<2:=by omega
   have cz:Hid (16*((a+1)*y)=16*(a*y)+16*y):=by unfold Hid;rw [Nat.add_mul,Nat.one_mul,Nat.mul_add]
   have bA:Hid (16*(a*y)+16*y<=4500000000000):=by
    unfold Hid;have h1:a*y<=1*y:=Nat.mul_le_mul_right y (by omega);have:=bB.out;omega
   generalize 16*(a*y)=q0 at*;go_wp2_with fail
   go_loopw [14,16] (fun okv iv w'=>∃ i:Nat,i<=P.length/\okv= .bool true/\iv= .int .i64 i/\Hid (HX f b b (q0+16*(i*S.length)) w' (fun _=>False))) (fun _ iv _=>P.length - (intOf iv).toNat)
   case atStart=>exact⟨0,Nat.zero_le _,rfl,rfl,by rw [Nat.zero_mul];exact HA⟩
   case round=>
    clear HA;obtain⟨i,hi,rfl,rfl,HI⟩:=hrel;obtain⟨wi,bZ⟩:∃ wi,wi=wr:=⟨_,rfl⟩;rw [<-bZ]at HI ⊢;clear bZ;by_cases a1:i<P.length
    ·have q2:(i:Int)<P.length:=by omega
     have q20:(0:Int)<=(i:Int):=by omega
     have br:Hid (q0+16*((i+1)*S.length)=q0+16*(i*S.length)+16*S.length):=by unfold Hid;rw [Nat.add_mul,Nat.one_mul,Nat.mul_add];omega
     have cT:Hid (q0+16*(i*S.length)+16*S.length<=4500000000000):=by
      unfold Hid;have h1:(i+1)*S.length<=P.length*S.length:=Nat.mul_le_mul_right _ a1;have h2:=br.out;have h3:=bA.out;have h4:=bk.out;omega
     generalize q0+16*(i*S.length)=qi at*;obtain⟨pg,po,rfl,m,l,bC,bT⟩:=c2.out.get a1;have cU:=ij bC;have aj:=ij bT;have A:=ij (cI.out _ (List.getElem_mem a1));clear bC bT;generalize P[i]=p at*;go_wp2_with fail
     go_loopw [14,17] (fun okv kv w'=>∃ k:Nat,k<=S.length/\okv= .bool true/\kv= .int .i64 k/\Hid (HX f b b (qi+16*k) w' (fun _=>False))) (fun _ kv _=>S.length - (intOf kv).toNat)
     case atStart=>exact⟨0,Nat.zero_le _,rfl,rfl,by rw [Nat.mul_zero];exact HI⟩
     case round=>
      clear HI;obtain⟨k,hk,rfl,rfl,L⟩:=hrel;obtain⟨G,bf⟩:∃ G,G=wr:=⟨_,rfl⟩;rw [<-bf]at L ⊢;clear bf;by_cases bn:k<S.length
      ·have q3:(k:Int)<S.length:=by omega
       have cA:(0:Int)<=(k:Int):=by omega
       have q31:(0:Int)<S.length:=by omega
       have q32:0<S.length:=by omega
       have aN:Hid (qi+16*k+16<=4500000000000):=by unfold Hid;have:=cT.out;omega
       have aZ:Hid (qi+16*(k+1)=qi+16*k+16):=by unfold Hid;omega
       generalize qi+16*k=qk at*;obtain⟨sg,so,rfl,C,B,Z,ac,bG⟩:=aQ.out.get bn;obtain⟨sg',so',e0,za,zc,aM,ck,_⟩:=aQ.out.get (show 0<S.length by omega);simp only [Option.some.injEq,Addr.mk.injEq,and_true]at e0;obtain⟨rfl,rfl⟩:=e0;rw [Nat.add_zero]at aM;have cu:=ij Z;have N:=ij ac;have cn:Hid (ox (.slice C S[k].length B)):=fun n c e=>bG n c e
       have bj:=ij aM;have cJ:=ij ck;have D:=ij (aR.out _ (List.getElem_mem bn));have cP:=ij (aR.out _ (List.getElem_mem (show 0<S.length by omega)));clear Z ac bG aM ck;generalize S[k]=s at*;generalize S[0]=z at*;have f1:=ip L.out.base _ _ cU.out;have f2:=ip L.out.base _ _ cu.out;go_upto_region 17 with fail
       obtain⟨I,ax⟩:∃ I,I=G.alloc (.cells #[.slice m p.length l] 37):=⟨_,rfl⟩;have aP:Hid (I.heap[G.heap.size]?=some (.cells #[.slice m p.length l] 37 (0,0))):=by unfold Hid;rw [ax];exact heap_alloc_new G _
       have E:Hid (HX f b b qk I (fun g=>False\/g=G.heap.size)):=by unfold Hid;rw [ax];exact L.out.made _
       rw [<-ax];clear ax f1 f2 L;generalize G.heap.size=n18 at*;have f1:=nQ aP.out;have d:=ij (x9 (pv:= .agg #[.slice m p.length l]) (sv:= .slice C s.length B) E.out (by have:=aN.out;omega) F.out R.out aj.out N.out A.out.1 (fun c hc=>(A.out.2 c hc).1) D.out);rw [H]at d;clear E;go_wp2_with fail
       refine d.out.mono ?_;clear d f1;rintro e u3 ⟨rfl,U,cc⟩;have aJ:Hid (u3.heap[n18]?=some (.cells #[.slice m p.length l] 37 (0,0))):=(cc n18 (Or.inr rfl)).trans aP.out;have f1:=nQ aJ.out;have d:=ij (CB (pv:= .agg #[.slice m p.length l]) (sv:= .slice C s.length B) U (by have:=aN.out;omega) F.out R.out aj.out N.out A.out.1 (fun c hc=>(A.out.2 c hc).1) D.out);rw [H]at d;clear U cc aP;go_wp2_with fail
       refine d.out.mono ?_;clear d f1;rintro e u4 ⟨rfl,bX,bR⟩;have aV:Hid (u4.heap[n18]?=some (.cells #[.slice m p.length l] 37 (0,0))):=(bR n18 (Or.inr rfl)).trans aJ.out;have f1:=nQ aV.out;have d:=ij (wV (pv:= .agg #[.slice m p.length l]) (sv:= .slice C s.length B) (fuel:=fuel) bX (by have:=aN.out;omega) F.out R.out aj.out N.out cn.out cx A.out.1 (fun c hc=>(A.out.2 c hc).1) D.out);rw [H]at d;clear bX bR aJ;go_wp2_with fail
       refine d.out.mono ?_;clear d f1;rintro e u5 ⟨rfl,aX,cf⟩;have aU:Hid (u5.heap[n18]?=some (.cells #[.slice m p.length l] 37 (0,0))):=(cf n18 (Or.inr rfl)).trans aV.out;have b0:=ij aX;have d:=ij (xO (pv:= .agg #[.slice m p.length l]) (sv:= .slice C s.length B) (tv:= .slice za z.length zc) (aX.grown (iy (ir _ _))) F.out R.out aj.out N.out A.out.1 (fun c hc=>(A.out.2 c hc).1) D.out cJ.out cP.out);rw [H]at d;clear aX cf aV;go_upto_region 20 with fail
       have bm:u5.drew.cell? ⟨n18,0,none⟩=some (.slice m p.length l)/\u5.drew.cell? ⟨sg,so,none⟩=some (.slice za z.length zc):=⟨nQ (w:=u5.drew) aU.out,ip (iy b0.out.base) _ _ bj.out⟩;refine iz (fun u=>u.cell? ⟨n18,0,none⟩=some (.slice m p.length l)/\u.cell? ⟨sg,so,none⟩=some (.slice za z.length zc)) 7 (by kernel_rfl) (by kernel_rfl) bm ?_;intro M;refine gJ 0 ?v0 rfl (by kernel_rfl) (fun _ _ _ h=>h) (by kernel_rfl) ?y0 M ?_
       case y0=>(rintro u ⟨Y,ah⟩;go_simp;try rfl)
       simp only [Act.put,List.setIfInBounds_toArray];refine gJ 1 ?v1 rfl (by kernel_rfl) (fun _ _ _ h=>h) (by kernel_rfl) ?y1 M ?_
       case y1=>(rintro u ⟨Y,ah⟩;go_simp;try rfl)
       simp only [Act.put];refine gJ 2 ?v2 rfl (by kernel_rfl) (fun _ _ _ h=>h) (by kernel_rfl) ?y2 M ?_
       case y2=>(rintro u ⟨Y,ah⟩;go_simp;try rfl)
       simp only [Act.put];refine gJ 3 ?v3 rfl (by kernel_rfl) (fun _ _ _ h=>h) (by kernel_rfl) ?y3 M ?_
       case y3=>(rintro u ⟨Y,ah⟩;go_simp;try rfl)
       simp only [Act.put];refine gJ 4 ?v4 rfl (by kernel_rfl) (fun _ _ _ h=>h) (by kernel_rfl) ?y4 M ?_
       case y4=>(rintro u ⟨Y,ah⟩;go_simp;first | done | rfl | exact rfl)
       simp only [Act.put];refine gJ 5 ?v5 rfl (by kernel_rfl) (fun _ _ _ h=>h) (by kernel_rfl) ?y5 M ?_
       case y5=>(rintro u ⟨Y,ah⟩;go_simp;try rfl)
       simp only [Act.put];refine iu (i:=6) rfl (by kernel_rfl) (by kernel_rfl) (by kernel_rfl) ?_;intro K6 b7;have bL:=ij b7;clear b7;go_simp;refine d.out.mono ?_;clear d;rintro e u6 ⟨rfl,aI,b1⟩;have au:Hid (u6.heap[n18]?=some (.cells #[.slice m p.length l] 37 (0,0))):=(b1 n18 (Or.inr rfl)).trans aU.out;have ak:=ij aI;have bi:u6.cell? ⟨n18,0,none⟩=some (.slice m p.length l)/\u6.cell? ⟨sg,so,none⟩=some (.slice za z.length zc):=⟨nQ au.out,ip aI.base _ _ bj.out⟩;refine bL.out _ _ bi ?_;clear bL aI b1;try simp only [Act.put,List.setIfInBounds_toArray]
       refine iH rfl (by kernel_rfl) (by kernel_rfl) (by kernel_rfl) ?_;go_simp;clear M bi bm b0 aU;go_wp2_with fail
       refine(ue _).mono ?_;rintro e u7 ⟨cv,rfl,J,aa⟩;obtain⟨bF,bh,aS⟩:=J.form;subst aS;have cb:=ij (ak.out.grown aa);have ch:=ij (pD u7 bF bh qv (.slice C s.length B) s yk J ((N.out.pres (ip (il ak.out.base aa))).mono (il ak.out.base aa).size) D.out);have a7:Hid (u7.heap[n18]?=some (.cells #[.slice m p.length l] 37 (0,0))):=by unfold Hid;rw [aa.block _ (Array.getElem?_eq_some_iff.1 au.out).1 (by simp)];exact au.out
       clear J aa ak au;go_wp2_with fail
       refine ch.out.mono ?_;clear ch;rintro e Q ⟨rb,rab,rrb,rst,rfl,aD⟩;generalize (iI qv s).kind=vk at*;generalize (iI qv s).thread=vt at*;generalize (iI qv s).at_=va at*;obtain⟨_,cN,cZ,cy,_,_,_⟩:=aD.vcells;have bD:=ij (cb.out.grown aD.frame);have a9:Hid (Q.heap[n18]?=some (.cells #[.slice m p.length l] 37 (0,0))):=by unfold Hid;rw [aD.frame.block _ (Array.getElem?_eq_some_iff.1 a7.out).1 (by simp)];exact a7.out
       clear aD cb a7;go_upto_region 22 with fail
       clear cN cZ cy;obtain⟨V,ar⟩:∃ V,V=Q.alloc (.cells #[.int .i64 vk,.int .i64 vt,.int .i64 va] 26):=⟨_,rfl⟩;have aK:Q.grownBy V none:=by rw [ar];exact iq (ir _ _)
       have bu:V.heap[Q.heap.size]?=some (.cells #[.int .i64 vk,.int .i64 vt,.int .i64 va] 26 (0,0)):=by rw [ar];exact heap_alloc_new Q _
       rw [<-ar];clear ar;have b8:=ij (bD.out.grown aK);have bc:V.heap[n18]?=some (.cells #[.slice m p.length l] 37 (0,0)):=by rw [aK.block _ (Array.getElem?_eq_some_iff.1 a9.out).1 (by simp)];exact a9.out
       have f1:=nQ bc;obtain⟨f2,f3,f4⟩:=C4 bu;have d:=ij (Am (rv:= .slice m p.length l) (sv:= .slice C s.length B) (k0:=vk) (k1:=vt) (k2:=va) b8.out F.out R.out aj.out N.out A.out.1 (fun c hc=>(A.out.2 c hc).1) D.out (fun c hc=>(A.out.2 c hc).2));rw [H]at d;clear aK bu bc b8 bD a9;generalize Q.heap.size=n24 at*;go_wp2_with fail
       refine d.out.mono ?_;clear d f1 f2 f3 f4;rintro e cC ⟨rfl,bU,_⟩;have bQ:Hid (HX f b b (qk+16) cC (fun _=>False)):=(bU.mono (by omega)).less (fun _ e=>e.elim);rw [<-aZ.out]at bQ;clear bU;go_wp2_with fail
       go_roundw
       case rel=>exact⟨k+1,by omega,by simp,by go_num,bQ⟩
       case measure=>simp [intOf];omega
      ·have q3:(S.length:Int)<=(k:Int):=by omega
       have ek:k=S.length:=by omega
       subst ek;have aZ:Hid (HX f b b (q0+16*((i+1)*S.length)) G (fun _=>False)):=by unfold Hid;rw [br.out];exact L.out
       clear L;go_wp2_with fail
       go_roundw
       case rel=>exact⟨i+1,by omega,by simp,by go_num,aZ⟩
       case measure=>simp [intOf];omega
    ·have q2:(P.length:Int)<=(i:Int):=by omega
     have ei:i=P.length:=by omega
     subst ei;have bN:Hid (q0+16*(P.length*S.length)+16*o.length+16*r.length<=4500000000000/\q0+16*(P.length*S.length)+16*o.length+16*r.length=q0+16*y):=by
      unfold Hid;have h3:=bA.out;have h4:=bk.out;omega
     generalize q0+16*(P.length*S.length)=qb at*;go_wp2_with fail
     go_loopw [14,26] (fun okv jv w'=>∃ j:Nat,j<=o.length/\okv= .bool true/\jv= .int .i64 j/\Hid (HX f b b (qb+16*j) w' (fun _=>False))) (fun _ jv _=>o.length - (intOf jv).toNat)
     case atStart=>exact⟨0,Nat.zero_le _,rfl,rfl,by rw [Nat.mul_zero];exact HI⟩
     case round=>
      clear HI;obtain⟨j,hj,rfl,rfl,v⟩:=hrel;obtain⟨T,ab⟩:∃ T,T=wr:=⟨_,rfl⟩;rw [<-ab]at v ⊢;clear ab;by_cases X:j<o.length
      ·have q3:(j:Int)<o.length:=by omega
       have cA:(0:Int)<=(j:Int):=by omega
       have aH:Hid (qb+16*j+16<=4500000000000):=by unfold Hid;have:=bN.out.1;omega
       have a0:Hid (qb+16*(j+1)=qb+16*j+16):=by unfold Hid;omega
       generalize qb+16*j=qj at*;obtain⟨bg,bo,rfl,be⟩:=wP cD.out X;have hbb:=ct.out _ (List.getElem_mem X);generalize o[j]=x at*;have f1:=ip v.out.base _ _ be;have d:=ij (AA (x:=x) v.out (by have:=aH.out;omega) F.out R.out (by omega));rw [H]at d;clear v be;go_wp2_with fail
       refine d.out.mono ?_;clear d f1;rintro e I ⟨rfl,ag,_⟩;have E:Hid (HX f b b (qb+16*(j+1)) I (fun _=>False)):=by unfold Hid;rw [a0.out];exact ag
       clear ag;go_wp2_with fail
       go_roundw
       case rel=>exact⟨j+1,by omega,by simp,by go_num,E⟩
       case measure=>simp [intOf];omega
      ·have q3:(o.length:Int)<=(j:Int):=by omega
       have ej:j=o.length:=by omega
       subst ej;have b9:=ij bN.out;generalize qb+16*o.length=qt at*;go_wp2_with fail
       go_loopw [14,27] (fun okv jv w'=>∃ j:Nat,j<=r.length/\okv= .bool true/\jv= .int .i64 j/\Hid (HX f b b (qt+16*j) w' (fun _=>False))) (fun _ jv _=>r.length - (intOf jv).toNat)
       case atStart=>exact⟨0,Nat.zero_le _,rfl,rfl,by rw [Nat.mul_zero];exact v⟩
       case round=>
        clear v;obtain⟨j,hj,rfl,rfl,v⟩:=hrel;obtain⟨T,ab⟩:∃ T,T=wr:=⟨_,rfl⟩;rw [<-ab]at v ⊢;clear ab;by_cases X:j<r.length
        ·have q4:(j:Int)<r.length:=by omega
         have q40:(0:Int)<=(j:Int):=by omega
         have aH:Hid (qt+16*j+16<=4500000000000):=by unfold Hid;have:=b9.out.1;omega
         have a0:Hid (qt+16*(j+1)=qt+16*j+16):=by unfold Hid;omega
         generalize qt+16*j=qj at*;obtain⟨tg,to_,rfl,bJ⟩:=wP c9.out X;have c4:=cl.out _ (List.getElem_mem X);generalize r[j]=x at*;have f1:=ip v.out.base _ _ bJ;have d:=ij (BK (x:=x) v.out (by have:=aH.out;omega) F.out c4);rw [H]at d;clear v bJ;go_wp2_with fail
         refine d.out.mono ?_;clear d f1;rintro e I ⟨rfl,ag,_⟩;have E:Hid (HX f b b (qt+16*(j+1)) I (fun _=>False)):=by unfold Hid;rw [a0.out];exact ag
         clear ag;by_cases bd:j<S.length
         ·have q5:(j:Int)<S.length:=by omega
          obtain⟨sg,so,rfl,C,B,Z,ac,_⟩:=aQ.out.get bd;have D:=aR.out _ (List.getElem_mem bd);generalize S[j]=s at*;have f2:=ip E.out.base _ _ Z;have d:=ij (AX (sv:= .slice C s.length B) E.out F.out cQ.out ac D);rw [H]at d;clear E Z ac D;go_wp2_with fail
          refine d.out.mono ?_;clear d f2;rintro e u3 ⟨rfl,U,_⟩;have cH:=ij U;clear U;go_wp2_with fail
          go_roundw
          case rel=>exact⟨j+1,by omega,by simp,by go_num,cH⟩
          case measure=>simp [intOf];omega
         ·have q5:(S.length:Int)<=(j:Int):=by omega
          go_wp2_with fail
          go_roundw
          case rel=>exact⟨j+1,by omega,by simp,by go_num,E⟩
          case measure=>simp [intOf];omega
        ·have q4:(r.length:Int)<=(j:Int):=by omega
         have ej:j=r.length:=by omega
         subst ej;have a8:Hid (HX f b b (16*((a+1)*y)) T (fun _=>False)):=by unfold Hid;rw [cz.out,<-b9.out.2];exact v.out
         clear v;go_wp2_with fail
         go_roundw
         case rel=>exact⟨a+1,by omega,by simp,by go_num,a8⟩
         case measure=>simp [intOf];omega
  ·have q1:(2:Int)<=(a:Int):=by omega
   have a8:=ij (il K.out HA.out.base);clear HA;go_wp2_with fail
   go_ret;exact⟨rfl,a8.out⟩
end
section
open Go.ChangeShapes Go.WideShapes Go.ChangeAt Go.RowKit Go.Joins
theorem Gg:Tryz.prog.globalNamed "internal/strconv.uint64pow10" =some 2:=by kernel_rfl
theorem F1:(Tryz.prog.globals[2]?).map (·.type)=some 275:=by kernel_rfl
theorem Gi:Tryz.prog.cellsOf 275=20:=by kernel_rfl
theorem F4:Tryz.prog.cellsOf 142=1:=by kernel_rfl
theorem vx{W:World}(h:laidMetH Tryz.prog Rows.allUptoRow.laid W):Tab W/\ShpAt W:=by
 have d:laidMet Tryz.prog Rows.allUptoRow.laid W:=h;obtain⟨ps,⟨_,_,_,_,_,_,_,_,_,_,⟨_,_,_,_,_,_,_,_,_,_,⟨g,t,cs,fuel,p,q,j,f,a,e,⟨g0,t0,cs0,f0,p0,q0,k,b,i,c,_⟩,_⟩,_⟩,_⟩,_,_⟩:=d;refine⟨?_,Ep k b i c⟩;obtain rfl:=Option.some.inj (Gg.symm.trans j);obtain rfl:=Option.some.inj (F1.symm.trans f);have l:DataW.trod (fun _=>()) Tryz.prog W 0 (fun _=>true) false fuel 275 cs.toList=some (Lib.tabData .u64 Lib.pow10Tab,p):=e;have hc:=Lib.cells_of_tab Tryz.underlying275 Tryz.underlying142 F4 Gi l;unfold Tab Lib.TabIs;rw [a,<-hc]
theorem vz(H:Type)(enc:TypeId × Value->H)(W:World)(base:Nat)(args:Array Value)(u N:List (DataW H))(ac:List MemPlace)
  (d:∀ (j:Nat) t v,Tryz.f3.params[j]?=some t->args[j]?=some v->Value.okWide Tryz.prog W .any base t v)
  (L:DataW.Whole enc Tryz.prog Tryz.f3.params.toList Rows.allSpec.vars false W args.toList u N ac) (hk:Rows.uptoSmall H (u++N)=true) (hL:laidMetH Tryz.prog Rows.allUptoRow.laid W):
  Calls Tryz.prog 3 args W fun e W'=>∃ v,e= .returned v/\Rows.allSpec.post enc Tryz.prog Tryz.f3 false true false false W args v W':=by
 have O:=L;obtain⟨p,q,E,U,rfl,hfz,hnd⟩:=L;have a:DataW.TrodAll enc Tryz.prog W 0 (fun _=>true) true Tryz.f3.params.toList args.toList u p:=E;rw [Tryz.params3]at a d;obtain⟨m,vs0,d0,ds0,K,q0,n,rfl,rfl,I,a⟩:=trodAll_cons a;obtain⟨w,vs1,d1,ds1,G,q1,rfl,rfl,rfl,F,a⟩:=trodAll_cons a;obtain⟨o,vs2,d2,ds2,Q,q2,rfl,rfl,rfl,y,a⟩:=trodAll_cons a;obtain⟨k,vs3,d3,ds3,B,q3,rfl,rfl,rfl,z,a⟩:=trodAll_cons a;obtain⟨M,D,d4,A,C,q4,rfl,rfl,rfl,J,a⟩:=trodAll_cons a;obtain⟨rfl,rfl,rfl⟩:D=[]/\A=[]/\q4=[]:=by
  cases D<;>cases A<;>simp [DataW.TrodAll]at a
  exact⟨rfl,rfl,a⟩
 obtain rfl:args=#[m,w,o,k,M]:=by
  obtain⟨l⟩:=args;simp at n;rw [n]
 obtain⟨rfl,rfl⟩:=trodVars_none U;clear E a n;have ae:=of_decide_eq_true hk;simp only [List.append_nil,Rows.uptoBulkAll]at ae;obtain⟨P,V,a2,r⟩:=Ai (d 0 22 m rfl rfl) I;obtain⟨S,b1,b2,b3⟩:=C6 (d 1 23 w rfl rfl) F;obtain⟨Bs,c1,c2,c3⟩:=xD (d 2 24 o rfl rfl) y;obtain⟨T,Y,d2',ai⟩:=xD (d 3 24 k rfl rfl) z;obtain⟨fuel,rfl,Z⟩:=Ed (d 4 3 M rfl rfl) J;obtain⟨R,X⟩:=vx hL;refine(Gb W m w o k fuel P S Bs T X R V b1 c1 Y Z.2 (by omega) (fun p hp=>⟨by have:=(r p hp).1;omega,fun c hc=>⟨by have:=((r p hp).2 c hc).1;omega,fun i hi=>((r p hp).2 c hc).2 i hi⟩⟩) (fun s hs=>by have:=b3 s hs;omega) (fun x hx=>by have:=c3 x hx;omega) (fun x hx=>by have:=ai x hx;omega)).mono fun e W' ⟨he,hg⟩=>?_
 subst he;have b:=wY hg;have f:∀ x∈K++(G++(Q++(B++(C++[])))),x.block<W.heap.size:=fun x hx=>by simpa using O.lt x (by simpa using hx)
 refine⟨_,rfl,_,_,_,[]++[],K++(G++(Q++(B++(C++[])))),[],O,trodAll_cons_mk (shut_bool Tryz.underlying4 _) trodAll_mk0,?_,rfl,b.frame _,fun h=>by cases h⟩;rw [Tryz.params3];exact trodAll_cons_mk (Below.trod pV (by kernel_rfl) (of_decide_eq_true (by kernel_rfl)) I b (fun x hx=>f x (by simp [hx])))
  (trodAll_cons_mk (Below.trod pV (by kernel_rfl) (of_decide_eq_true (by kernel_rfl)) F b (fun x hx=>f x (by simp [hx])))
  (trodAll_cons_mk (Below.trod pV (by kernel_rfl) (of_decide_eq_true (by kernel_rfl)) y b (fun x hx=>f x (by simp [hx])))
  (trodAll_cons_mk (Below.trod pV (by kernel_rfl) (of_decide_eq_true (by kernel_rfl)) z b (fun x hx=>f x (by simp [hx])))
  (trodAll_cons_mk (Below.trod pV (by kernel_rfl) (of_decide_eq_true (by kernel_rfl)) J b (fun x hx=>f x (by simp [hx])))
   trodAll_mk0))))
theorem CH(os:Os):laidMetH Tryz.prog Rows.allUptoRow.laid ((World.doorLaid Tryz.prog 400 os).forCall (fun _ _=>0) ⟨#[],#[.slice none 0 0,.slice none 0 0,.slice none 0 0,.slice none 0 0,.int .i64 0],[]⟩).memory:=
 laidMetH_of_parts3 (fuel:=8) (laidMet_of_run' 8 (by kernel_rfl) (by kernel_rfl)) (by kernel_rfl) (by kernel_rfl)
theorem zS(os:Os){H:Type}(enc:TypeId × Value->H):∃ places,DataW.whole enc Tryz.prog ((World.doorLaid Tryz.prog 400 os).forCall (fun _ _=>0) ⟨#[],#[.slice none 0 0,.slice none 0 0,.slice none 0 0,.slice none 0 0,.int .i64 0],[]⟩).memory Tryz.f3.params.toList Rows.allSpec.vars false #[Value.slice none 0 0,.slice none 0 0,.slice none 0 0,.slice none 0 0,.int .i64 0].toList 8=some ([.nil,.nil,.nil,.nil,.lit (.int .i64 0)],[],places):=
 ⟨[],by kernel_rfl⟩
theorem yu(a:Os)(e:a.Started)(H:Type)(enc:TypeId × Value->H)(F:Stop.Interp):
  ReturnsInHanded {} Tryz.checked a 3 .any ((Rows.OpenSpec.upto Rows.allSpec).preRow enc Tryz.prog Tryz.f3 Rows.allUptoRow.domain false Rows.allUptoRow.laid) (((Rows.OpenSpec.upto Rows.allSpec).at F).post enc Tryz.prog Tryz.f3 false true false false):=by
 obtain⟨places,b⟩:=zS a enc;refine returnsInHanded_of_row (C:=Tryz.checked) (s:=Rows.OpenSpec.upto Rows.allSpec) own e (by kernel_rfl) Tryz.func3
  (witness_row_atRef (enc:=enc) (C:=Tryz.checked) false (World.doorLaid Tryz.prog 400 a) #[.slice none 0 0,.slice none 0 0,.slice none 0 0,.slice none 0 0,.int .i64 0] rfl (by kernel_rfl) (by kernel_rfl) (by kernel_rfl)
   (OpenSpec.preRow_of_cond 8 b (by kernel_rfl) (fun k hk=>by cases hk;kernel_rfl) (by kernel_rfl) (CH a))) ?_
 intro W base args i d f c h _ l _ j _ _;exact vz H enc W base args i d f c h (l _ rfl) j
theorem B8:Rows.AllUptoSaid:=
 OpenClaim.holds_of_cond 3 Tryz.f3 rfl rfl rfl rfl rfl rfl rfl ⟨rfl,rfl,rfl,rfl,rfl⟩ rfl rfl rfl rfl rfl (by kernel_rfl) Tryz.func3 (by kernel_rfl)
  (of_decide_eq_true (by kernel_rfl)) (by unfold Func.isWrapper;first | (rw [if_pos (by decide+kernel)];kernel_rfl) | (rw [if_neg (by decide+kernel)];exact⟨rfl,rfl⟩))
  (fun os started H enc _ F=>by rw [OpenClaim.pre_eq_preRow];exact yu os started H enc F)
theorem AR(f:FuncId)(a:Func)(b:Tryz.pinned.checked.prog.funcNamed "rerun/rerunlaw.All" =some f)(d:Tryz.pinned.checked.prog.funcs[f]?=some a):
  Rows.allUptoCard.stood.looks=Tryz.pinned.checked.prog.looks []/\∀ (j:Nat) t,a.params[j]?=some t->Tryz.pinned.checked.prog.wantsStandIn t=false:=by
 obtain rfl:f=3:=Option.some.inj ((show Tryz.prog.funcNamed "rerun/rerunlaw.All" =some 3 by kernel_rfl).symm.trans b) |>.symm
 obtain rfl:a=Tryz.f3:=(Option.some.inj (Tryz.func3.symm.trans d)).symm;refine⟨by kernel_rfl,fun j t ht=>?_⟩;rw [Tryz.params3]at ht;have c:t∈[22,23,24,24,3]:=by simpa using Array.mem_of_getElem? ht
 have e:([22,23,24,24,3].all fun u=>!Tryz.prog.wantsStandIn u)=true:=by kernel_rfl
 exact(show Tryz.prog.wantsStandIn t=false by simpa using List.all_eq_true.1 e t c)
theorem all_card:Rows.AllUptoCardSaid:=
 Claim7.holds_tied_plain_at .later [] _ _ _ _ B8 (fun _ h=>by cases h) (by kernel_rfl) (fun _ h=>by cases h) allUpto_row_tie rfl ⟨rfl,rfl⟩ (by kernel_rfl) rfl AR (by kernel_rfl)
#print axioms all_card
end
end Go.Proofs.YtklenjmfalljgabGreatDoor
