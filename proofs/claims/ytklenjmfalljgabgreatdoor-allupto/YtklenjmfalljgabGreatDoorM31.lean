/- The second form's card of All: where what is read is of bulk at most the bound, every call, one behind the other, and again, is as the reference says, whatever the owner does with what came out and with what was lent. -/
import Derived.Test.YtklenjmfalljgabGreatDoorM11
import Derived.Test.YtklenjmfalljgabGreatDoorM14
import Derived.Test.YtklenjmfalljgabGreatDoorM25
import Derived.Test.YtklenjmfalljgabGreatDoorM29
import Derived.Test.YtklenjmfalljgabGreatDoorM30
import Derived.Test.YtklenjmfalljgabGreatDoorCards
import Derived.Test.YtklenjmfalljgabGreatDoorTie
import Derived.ChangeMaps5
import Derived.Lib.LaidTab
namespace Go.Proofs.YtklenjmfalljgabGreatDoor
set_option maxRecDepth 100000
set_option maxHeartbeats 8000000
section
open Go.RowKit
attribute [local go_sem] Go.World.cell?_alloc_some
theorem Aw(W:World)(B:Nat)(w:World)(b:Nat)(who:Nat->Role)(n:Int)(f:Nat->Value)(K:Nat->List (Value × Int))(s:ByteArray)
  (h:Hz B w b who n f K) (hW:W.grownBy w none) (aZ:W.heap.size<=B) (hS:ShpAt W) (hs:s.size<=9223372036854775000) (bO:0<=n) (hn1:n<=8000000000000) (hK:∀ c,c<5->(K c).length<=4900000000000):
  Calls Tryz.prog 12 #[pt b,.string s] w (HzD W B b n K):=by
 have C:=il h;have Z:=il hW;have HS:=il hS;have HK:=il hK;have ac:pt b= .pointer (some ⟨b,0,none⟩):=rfl;have o:=il (vn s);have aV:=il (fun(u:World) (hu:W.grownBy u none)=>Cg s u (HS.out.pres (iq hu)) (by omega));have bl:=il (fun(u:World)=>xe s u hs);clear h hW hS hK;rw [ac];go_enter Tryz.func12,Tryz.ntmps12
 go_wp2_with fail
 refine(aV.out _ Z.out).mono ?_;clear aV;intro e d hD;obtain⟨aK,tv,sv,he,R,E⟩:=hD.form;clear hD;subst he;have aC:Hid (∀ u e u',RDec u s e u'->u.grownBy u' none/\∃ tv sv,e= .returned (.tuple #[.agg #[tv,sv,.int .i64 (jP s).1.ver.1,.int .i64 (jP s).1.ver.2.1,.int .i64 (jP s).1.ver.2.2],.int .i64 (jP s).2])/\ProgAt u' (.agg #[tv]) (jP s).1.prog/\IntsAt u'.heap.size u' sv (jP s).1.sch):=fun u e u' h=>h.form
 generalize jP s=D at*;obtain⟨⟨p,a,k0,k1,k2⟩,ce⟩:=D;simp only at R E aC o;obtain⟨v,t2,z,rfl⟩:=iy R.choose_spec.1;obtain⟨l,s2,j,rfl⟩:=iy E;have bz:=iC R.choose_spec.1;have bw:=iC E;subst bz bw;have bi:=il R;have aS:=il E;have bf:=il aK;clear R E aK;go_upto_region 2 with fail
 obtain⟨r,ai⟩:∃ r,r=d.alloc (.cells #[.slice v p.length z,.slice l a.length j,.int .i64 k0,.int .i64 k1,.int .i64 k2] 56):=⟨_,rfl⟩;have aT:Hid (r.heap[d.heap.size]?=some (.cells #[.slice v p.length z,.slice l a.length j,.int .i64 k0,.int .i64 k1,.int .i64 k2] 56 (0,0))):=by unfold Hid;rw [ai];exact heap_alloc_new d _
 have bt:Hid (d.grownBy r none):=by unfold Hid;rw [ai];exact ir (iu _ _)
 rw [<-ai];clear ai;have au:Hid (w.heap.size<=d.heap.size/\d.heap.size<r.heap.size):=⟨bf.out.size,(Array.getElem?_eq_some_iff.1 aT.out).1⟩;generalize a7:d.heap.size=n5 at*;have bc:=il a7;clear a7;go_wp2_with fail
 refine(bl.out r).mono ?_;clear bl;intro e S hR;obtain⟨bd,rv,yv,he,ax,aF⟩:=aC.out _ _ _ hR;clear hR aC;subst he;obtain⟨ra,rc,aX⟩:=ax.form;simp only [Value.agg.injEq,Array.mk.injEq,List.cons.injEq,and_true]at aX;subst aX;obtain⟨ya,yc,rfl⟩:=aF.form;have bG:=il bd;have bL:=il ax;have bB:=il aF;clear bd ax aF;go_upto_region 3 with fail
 obtain⟨i,al⟩:∃ i,i=S.alloc (.cells #[.slice ra p.length rc,.slice ya a.length yc,.int .i64 k0,.int .i64 k1,.int .i64 k2] 56):=⟨_,rfl⟩;have aN:Hid (i.heap[S.heap.size]?=some (.cells #[.slice ra p.length rc,.slice ya a.length yc,.int .i64 k0,.int .i64 k1,.int .i64 k2] 56 (0,0))):=by unfold Hid;rw [al];exact heap_alloc_new S _
 have ab:Hid (S.grownBy i none):=by unfold Hid;rw [al];exact ir (iu _ _)
 rw [<-al];clear al;generalize bb:S.heap.size=n7 at*;have bN:=il bb;clear bb;have ao:Hid (r.grownBy i none):=ip bG.out ab.out;have aG:Hid (d.grownBy i none):=ip bt.out ao.out;have am:Hid (∀ u:World,i.grownBy u none->(u.cell? ⟨n5,0,none⟩=some (.slice v p.length z)/\u.cell? ⟨n5,1,none⟩=some (.slice l a.length j)/\u.cell? ⟨n5,2,none⟩=some (.int .i64 k0)/\u.cell? ⟨n5,3,none⟩=some (.int .i64 k1)/\u.cell? ⟨n5,4,none⟩=some (.int .i64 k2))/\(u.cell? ⟨n7,0,none⟩=some (.slice ra p.length rc)/\u.cell? ⟨n7,1,none⟩=some (.slice ya a.length yc)/\u.cell? ⟨n7,2,none⟩=some (.int .i64 k0)/\u.cell? ⟨n7,3,none⟩=some (.int .i64 k1)/\u.cell? ⟨n7,4,none⟩=some (.int .i64 k2))):=fun u hu=>
  ⟨pE (by rw [(ip ao.out hu).block n5 au.out.2 (by simp)];exact aT.out),pE (by rw [hu.block n7 (Array.getElem?_eq_some_iff.1 aN.out).1 (by simp)];exact aN.out)⟩
 have bF:Hid (ProgAt d (.agg #[.slice v p.length z]) p):=bi.out.progAt;have a6:=il (tD p _ _ i (bF.out.pres (iq aG.out)) (bL.out.pres (iq ab.out)) (by have:=o.out.1;omega) (fun c hc=>by have:=o.out.2.1 c hc;omega));obtain⟨⟨P,t,H,N,L⟩,I,G,O,F,Q⟩:=am.out i (iu _ _);clear t H N L G O F Q;go_wp2_with fail
 refine a6.out.mono ?_;clear a6 P I;rintro e w5 ⟨rfl,A⟩;have bv:=il A;have bp:Hid (d.grownBy w5 none):=ip aG.out A;have aH:=il (sU a a (.slice l a.length j) (.slice ya a.length yc) w5 (jz (iE aS.out bp.out (fun _ e=>by cases e))) ((bB.out.pres (iq (ip ab.out A))).mono (by have:=bN.out;have:=(ip ab.out A).size;omega)) (by have:=o.out.2.2;omega));rw [show (a==a)=true by simp]at aH;obtain⟨⟨P,t,H,N,L⟩,I,G,O,F,Q⟩:=am.out w5 A;clear A P H N L I O F Q;go_wp2_with fail
 refine aH.out.mono ?_;clear aH t G;rintro e w6 ⟨rfl,aO⟩;have ag:Hid (i.grownBy w6 none):=ip bv.out (iL aO);have U:Hid (d.grownBy w6 none):=ip aG.out ag.out;have aY:Hid (w.grownBy w6 none):=ip bf.out U.out;clear aO;obtain⟨⟨P,t,H,N,L⟩,I,G,O,F,Q⟩:=am.out w6 ag.out;clear t I G;go_upto_region 6 with (go_at_call 23;refine(CE _ _).mono ?_;rintro e w9 ⟨rfl,bC⟩;have bq:=bC.symm;subst bq)
 clear H N L O F Q;have hlow:B<=w.heap.size:=by have:=C.out.1.1.dom b (by rw [C.out.1.1.wb];simp);omega
 obtain⟨T,hTl,M⟩:=DJ bi.out (fun c hc=>by have:=o.out.2.1 c hc;omega);have hT4:T.length<=4:=by have:=o.out.1;omega
 have X:∀ q,w.heap.size<=q->who q= .other:=fun q hq=>by
  by_cases ho:who q= .other
  ·exact ho
  ·exact absurd (C.out.1.1.dom q ho).2 (by omega)
 have a8:=il X;have y:=il M;have aB:=il (tH B w6 b who n f K (.slice v p.length z) T (C.out.1.grown aY.out) ((M.grown U.out).low (by omega)) (fun q e=>X q (by have:=iB M.row q e;omega)) (fun x hx q e=>X q (by have:=iB (M.el x hx).1 q e;omega)) bO (by omega) (by have:=HK.out 3 (by omega);omega) (by have:=HK.out 4 (by omega);omega) (by omega));rw [ac]at aB;clear M X;go_wp2_with fail
 refine aB.out.mono ?_;clear aB P;rintro e V ⟨⟨v7,rfl⟩,aI,f7,K7,aE,af,ba,br,bx,aj⟩;have bD:Hid (W.grownBy w6 none):=ip Z.out aY.out;have aq:∀ q,((Value.slice v p.length z).ownBlock=some q\/∃ x∈T,x.1.ownBlock=some q)->w.heap.size<=q/\q<n5:=fun q e=>by
  rcases e with e | ⟨x,hx,e⟩
  ·have h1:=iB y.out.row q e;have h2:=i6 y.out.row q e;have:=bc.out;omega
  ·have h1:=iB (y.out.el x hx).1 q e;have h2:=i6 (y.out.el x hx).1 q e;have:=bc.out;omega
 have bm:Hid (W.grownBy V none):=af.base bD.out aZ (fun g e=>(C.out.1.1.dom g e).1) (fun q e=>by have:=(aq q e).1;have:=Z.out.size;omega);have bE:n5<w6.heap.size:=by have:=au.out.2;have:=(ip ao.out ag.out).size;omega
 have t:V.cell? ⟨n5,1,none⟩=some (.slice l a.length j):=by
  rw [World.cell?_of_block (af.oth n5 bE (a8.out n5 au.out.1) (fun e=>by have:=(aq n5 e).2;omega)).1];exact(am.out w6 ag.out).1.2.1
 have m:w6.ownsRow (w.heap.size+6) 3 1 (.slice l a.length j) a.length (iM a):=iE aS.out U.out (fun _ e=>by cases e);have ad:∀ q,(Value.slice l a.length j).ownBlock=some q->V.heap[q]?=w6.heap[q]?/\aI q= .other:=fun q e=>by
  refine af.oth q (i6 m q e) (a8.out q (by have:=iB m q e;omega)) (fun h=>?_);rcases h with h | ⟨x,hx,h⟩
  ·exact pH m (y.out.grown U.out).row (by decide) q e h
  ·exact pH m ((y.out.grown U.out).el x hx).1 (by decide) q e h
 have bH:=il (fun q e=>(And.intro (iB m q e) (ad q e).2:w.heap.size+6<=q/\aI q= .other));have aw:=il (oe B V b aI (n+T.length+1) f7 K7 (.slice l a.length j) a.length _ aE (iR (iN m (fun q e=>(ad q e).1)) (by omega)) (fun q e=>(ad q e).2) (by omega) (by omega) (by rw [aj 0 (by omega) (by omega)];have:=HK.out 0 (by omega);omega) (by have:=o.out.2.2;omega));rw [ac]at aw;have bI:=il aE;have aL:Hid (∀ c,c<5->(K7 c).length<=(K c).length+16/\(c=0->K7 c=K c)):=fun c hc=>by
  refine⟨?_,fun e=>aj c (by omega) (by omega)⟩;by_cases e3:c=3
  ·subst e3;omega
  ·by_cases e4:c=4
   ·subst e4;omega
   ·rw [aj c e3 e4];omega
 have bM:=il ba;clear aE af ba br bx aj ad m aq;go_wp2_with fail
 refine aw.out.mono ?_;clear aw t;rintro e w8 ⟨⟨v8,rfl⟩,az,f8,Y,ap,J⟩;have bK:Hid (W.grownBy w8 none):=J.fr.base bm.out aZ (fun g e=>(bI.out.1.dom g e).1) (fun q e=>by have:=(bH.out q e).1;have:=Z.out.size;omega);have aQ:Hid (Hz B w8 b az (n+T.length+1+1) f8 Y):=⟨ap,fun k hk=>by rw [J.lent k hk,bM.out k hk];exact C.out.2 k hk⟩;have a5:Hid (∀ c,c<5->(Y c).length<=(K c).length+16):=fun c hc=>by
  by_cases e:c=0
  ·subst e;have:=J.len;rw [(aL.out 0 (by omega)).2 rfl]at this;omega
  ·rw [J.oth c e];exact(aL.out c hc).1
 have an:=il (qw B w8 b az (n+T.length+1+1) f8 Y ap (fun c hc=>by have:=a5.out c hc;have:=HK.out c hc;omega));rw [ac]at an;clear ap J;go_wp2_with fail
 refine an.out.mono ?_;clear an;rintro e w9 ⟨rfl,bg⟩;have aP:Hid (w8.grownBy w9 none):=iL bg;clear bg;go_wp2_with fail
 go_ret;exact⟨by simp,_,az,f8,Y,by omega,by omega,⟨aQ.out.1.grown aP.out,aQ.out.2⟩,ip bK.out aP.out,a5.out⟩
theorem CW(n:Int)(w:World):Calls Tryz.prog 23 #[.int .i64 n] w fun e w'=>e= .returned (.int .i64 n)/\w'=w:=by
 go_enter Tryz.func23,Tryz.ntmps23
 go_wp2_with fail
 go_ret;exact⟨rfl,rfl⟩
def vq(l:List Int):ByteArray × Int:=if jd l=true then (⟨(lV l).toArray⟩,0) else (⟨#[]⟩,2)
theorem xF{l:List Int}{e:Ending}(h:(jd l=true/\e= .returned (.tuple #[.string ⟨(lV l).toArray⟩,.int .i64 0]))\/(jd l=false/\e= .returned (.tuple #[.string ⟨#[]⟩,.int .i64 2]))):e= .returned (.tuple #[.string (vq l).1,.int .i64 (vq l).2]):=by
 unfold vq;rcases h with ⟨h,rfl⟩ | ⟨h,rfl⟩
 ·rw [if_pos h]
 ·rw [if_neg (by rw [h];simp)]
theorem Bf(W:World)(B:Nat)(w:World)(b:Nat)(who:Nat->Role)(n:Int)(f:Nat->Value)(K:Nat->List (Value × Int))(L:Value)(l:List Int)
  (h:Hz B w b who n f K) (k:W.grownBy w none) (u:W.heap.size<=B) (J:Tab W) (a:IntsAt W.heap.size W L l) (hln:l.length<=1048576):
  Calls Tryz.prog 14 #[pt b,L] w (HzE W B b n K w who):=by
 have O:=il h;have T:=il k;have X:=il J;have U:=il a;obtain⟨v,r,rfl⟩:=a.form;have F:pt b= .pointer (some ⟨b,0,none⟩):=rfl;have t:=il (lT B w b who n f K [] [] [] 0 (.slice v l.length r) l h.lx ((a.pres (iq k)).mono k.size) (my h.1 u a) (by omega) (by simp));clear h k J a;rw [F]at t ⊢;go_enter Tryz.func14,Tryz.ntmps14
 go_wp2_with fail
 refine t.out.mono ?_;clear t;rintro e c ⟨N,j,f1,rfl,m,x⟩;simp only [List.nil_append]at m;have E:Hid (W.grownBy c none):=x.base T.out u (fun g e=>(O.out.1.1.dom g e).1) (fun _ e=>e.elim);have P:Hid (Fr w c who j (fun g=>w.heap.size<=g)):=(Fr.refl _ _ _).step0 x;have G:IntsAt c.heap.size c (.slice (some ⟨N,0,none⟩) l.length (l.length+2)) l:=ma (m.le.li (N,l,.slice v l.length r) (by simp)).1;have H:=il (D3 l _ c (X.out.grown E.out) G);have D:=il m;clear m x G;go_wp2_with fail
 refine H.out.mono ?_;clear H;rintro e A ⟨i,d⟩;obtain rfl:=xF d;clear d;have Z:=il i;have V:Hid (W.grownBy A none):=ip E.out i;have o:=il (qL B A b j n f1 K _ _ _ (D.out.grown i) (by simp) (by simp) (by simp));rw [F]at o;clear i;go_wp2_with fail
 refine o.out.mono ?_;clear o;rintro e y ⟨rfl,Y,I,p⟩;have q:Hid (W.grownBy y none):=p.base V.out u (fun g e=>(D.out.hs.1.dom g e).1) (fun _ e=>e.elim);have Q:Hid (Fr w y who j (fun g=>w.heap.size<=g)):=(P.out.stepG Z.out).step0 p;have M:=il I;have C:=il (yG l (.slice v l.length r) y ((U.out.pres (iq q.out)).mono q.out.size));clear I p;go_wp2_with fail
 refine C.out.mono ?_;clear C;rintro e w4 ⟨z,d⟩;obtain rfl:=xF d;clear d;generalize vq l=PO at*;obtain⟨ps,pe⟩:=PO;have s:=il z;clear z;go_wp2_with (go_at_call 23;refine(CW _ _).mono ?_;rintro e w9 ⟨rfl,R⟩;have S:=R.symm;subst S)
 go_ret;exact⟨by simp,j,Y,⟨M.out.1.grown s.out,M.out.2⟩,ip q.out s.out,Q.out.stepG s.out⟩
theorem BG(l:List Nat):(jN l).out.length<=500:=by
 rw [pT];unfold lF;split
 ·simp
 ·cases jl (ja l) (-1) []with
  | none=>simp
  | some x=>
   simp only;split
   ·simp
   ·show x.1.length<=500
    omega
theorem Cl(W:World)(B:Nat)(w:World)(b:Nat)(who:Nat->Role)(n:Int)(f:Nat->Value)(K:Nat->List (Value × Int))(s:ByteArray)
  (h:Hz B w b who n f K) (Z:W.grownBy w none) (al:W.heap.size<=B) (hs:s.size<=1048576) (ar:0<=n) (hn1:n<=9000000000000) (M:∀ c,c<5->(K c).length<=4900000000000):
  Calls Tryz.prog 13 #[pt b,.string s] w (HzG W B b (n+1) K):=by
 have a:=il h;have V:=il Z;have X:=il M;have v:pt b= .pointer (some ⟨b,0,none⟩):=rfl;have aa:=il (BG (byt s));clear h Z M;rw [v];go_enter Tryz.func13,Tryz.ntmps13
 go_wp2_with fail
 refine(DD s w (by omega)).mono ?_;rintro e w1 ⟨x,y,z,rfl,O,L⟩;have ag:=il L;have ad:=il O;clear L O;have o:=il (x8 s w1 hs);rw [<-pT]at o;generalize hp:jN (byt s)=p at*;obtain⟨out,at_,ok⟩:=p;simp only at*;clear hp;go_wp2_with (go_at_call 46;refine o.out.mono ?_)
 clear o;rintro e m ⟨x',y',z',rfl,C,t⟩;have aq:Hid (w.grownBy m none):=ip ag.out t;have i:m.ownsRow (w.heap.size+1) 3 1 (.slice x y z) out.length (iM out):=iE ad.out t (fun _ e=>by cases e);have ac:=iC i;have am:=iC C;subst ac;subst am;have F:=il (sU out out _ _ m (jz i) (jz C) (by have:=aa.out;omega));rw [show (out==out)=true by simp]at F;have P:=il i;simp only [F6];generalize FR ok=pe at*;clear i C t;go_wp2_with (go_at_call 30;refine F.out.mono ?_)
 clear F;rintro e J ⟨rfl,G⟩;have Y:Hid (w.grownBy J none):=ji aq.out G;have A:∀ q,(Value.slice x out.length z).ownBlock=some q->w.heap.size+1<=q/\who q= .other:=fun q e=>by
  have h1:=iB P.out q e;refine⟨h1,?_⟩;by_cases T:who q= .other
  ·exact T
  ·exact absurd (a.out.1.1.dom q T).2 (by omega)
 have af:=il A;have hlow:B<=w.heap.size:=by have:=(a.out.1.1.dom b (by rw [a.out.1.1.wb];simp));omega
 have U:J.ownsRow B 3 1 (.slice x out.length z) out.length (iM out):=iR (iE P.out (iL (r:=none) G) (fun _ e=>by cases e)) (by omega);have D:=il (oe B J b who n f K (.slice x out.length z) out.length _ (a.out.1.grown Y.out) U (fun q e=>(A q e).2) ar (by omega) (by have:=X.out 0 (by omega);omega) (by have:=aa.out;omega));rw [v]at D;clear U G A;go_wp2_with (go_at_call 31;refine D.out.mono ?_)
 clear D;rintro e j ⟨⟨rv,rfl⟩,E,H,l,I,d⟩;have an:Hid (W.grownBy j none):=d.fr.base (ip V.out Y.out) al (fun g e=>(a.out.1.1.dom g e).1) (fun q e=>by have:=(af.out q e).1;have:=V.out.size;omega);have N:Hid (Hz B j b E (n+1) H l):=⟨I,fun k hk=>by rw [d.lent k hk];exact a.out.2 k hk⟩;have R:Hid (∀ c,c<5->(l c).length<=(K c).length+4):=fun c hc=>by
  by_cases e:c=0
  ·subst e;have:=d.len;omega
  ·rw [d.oth c e];omega
 have u:=il (qw B j b E (n+1) H l I (fun c hc=>by have:=R.out c hc;have:=X.out c hc;omega));clear I d;rw [v]at u;go_wp2_with (go_at_call 27;refine u.out.mono ?_)
 clear u;rintro e w5 ⟨rfl,S⟩;have Q:Hid (j.grownBy w5 none):=iL S;clear S;go_wp2_with (go_at_call 23;refine(CW _ _).mono ?_;rintro e w9 ⟨rfl,ai⟩;have aj:=ai.symm;subst aj)
 go_ret;exact⟨by simp,E,H,l,⟨N.out.1.grown Q.out,N.out.2⟩,ip an.out Q.out,R.out⟩
end
section
open Go.RowKit
def HX(W:World)(B b q:Nat)(w:World)(X:Nat->Prop):Prop:=∃ who n f K,Hz B w b who n f K/\W.grownBy w none/\0<=n/\n<=(q:Int)/\(∀ c,c<5->(K c).length<=q)/\∀ g,X g->g<w.heap.size/\who g= .other
def Tru(W:World)(B b q:Nat)(w:World)(X:Nat->Prop)(e:Ending)(w':World):Prop:=e= .returned (.bool true)/\HX W B b q w' X/\∀ g,X g->w'.heap[g]?=w.heap[g]?
theorem HX.grown{W w w':World}{B b q:Nat}{X:Nat->Prop}(h:HX W B b q w X)(a:w.grownBy w' none):HX W B b q w' X:=by
 obtain⟨who,n,f,K,d,j,e,k,i,c⟩:=h;exact⟨who,n,f,K,⟨d.1.grown a,d.2⟩,ip j a,e,k,i,fun g hx=>⟨Nat.lt_of_lt_of_le (c g hx).1 a.size,(c g hx).2⟩⟩
theorem HX.mono{W w:World}{B b q a:Nat}{X:Nat->Prop}(h:HX W B b q w X)(k:q<=a):HX W B b a w X:=by
 obtain⟨who,n,f,K,l,i,d,h4,e,j⟩:=h;exact⟨who,n,f,K,l,i,d,by omega,fun c hc=>Nat.le_trans (e c hc) k,j⟩
theorem HX.less{W w:World}{B b q:Nat}{X Y:Nat->Prop}(h:HX W B b q w X)(k:∀ g,Y g->X g):HX W B b q w Y:=by
 obtain⟨who,n,f,K,j,d,a,i,c,e⟩:=h;exact⟨who,n,f,K,j,d,a,i,c,fun g hg=>e g (k g hg)⟩
theorem HX.made{W w:World}{B b q:Nat}{X:Nat->Prop}(h:HX W B b q w X)(o:Obj):HX W B b q (w.alloc o) (fun g=>X g\/g=w.heap.size):=by
 obtain⟨who,n,f,K,c,k,i,l,j,d⟩:=h;have a:w.grownBy (w.alloc o) none:=ir (iu _ _);refine⟨who,n,f,K,⟨c.1.grown a,c.2⟩,ip k a,i,l,j,fun g hx=>?_⟩;rcases hx with hx | rfl
 ·exact⟨Nat.lt_of_lt_of_le (d g hx).1 a.size,(d g hx).2⟩
 ·refine⟨by simp,?_⟩;by_cases e:who w.heap.size= .other
  ·exact e
  ·exact absurd (c.1.1.dom _ e).2 (by omega)
theorem HX.base{W w:World}{B b q:Nat}{X:Nat->Prop}(h:HX W B b q w X):W.grownBy w none:=by
 obtain⟨_,_,_,_,_,a,_⟩:=h;exact a
theorem HX.start{W w:World}(h:w.heap[W.heap.size]?=some (.cells (hcl f00) 45 (0,0)))(hg:W.grownBy w none):HX W W.heap.size W.heap.size 0 w (fun _=>False):=
 ⟨_,_,_,_,Hz.start h,hg,Int.le_refl _,Int.le_refl _,fun _c _=>Nat.le_refl _,fun _ e=>e.elim⟩
section
variable {W w : World} {B b q : Nat} {X : Nat -> Prop} {pv sv tv : Value} {p : List (List Ins)} {s t : List Int}
theorem xR(h:HX W B b q w X)(hq:q<=4800000000000)(A:W.heap.size<=B)(u:ShpAt W)(x:ProgAt W pv p)(C:IntsAt W.heap.size W sv s)(hpl:p.length<=1048576)(v:∀ c∈p,c.length<=1048576)(hsl:s.length<=1048576):
  Calls Tryz.prog 6 #[pt b,pv,sv] w (Tru W B b (q+4) w X):=by
 obtain⟨who,n,f,K,r,l,k,h4,i,a⟩:=h;refine(xY W B w b who n f K pv sv p s r l A u x C (by omega) (fun c hc=>by have:=v c hc;omega) (by omega) k (by omega) (fun c hc=>by have:=i c hc;omega)).mono ?_;rintro e w' ⟨y,z,m,o,g1,g2,t,d⟩;have j:=fun g hg=>d.oth g (a g hg).1 (a g hg).2 (by have:=(a g hg).1;omega)
 exact⟨y,⟨z,_,m,o,g1,g2,by omega,by omega,fun c hc=>by have:=t c hc;have:=i c hc;omega,fun g hg=>⟨Nat.lt_of_lt_of_le (a g hg).1 d.size,(j g hg).2⟩⟩,fun g hg=>(j g hg).1⟩
theorem Dk(h:HX W B b q w X)(hq:q<=4800000000000)(A:W.heap.size<=B)(u:ShpAt W)(x:ProgAt W pv p)(C:IntsAt W.heap.size W sv s)(hpl:p.length<=1048576)(v:∀ c∈p,c.length<=1048576)(hsl:s.length<=1048576):
  Calls Tryz.prog 7 #[pt b,pv,sv] w (Tru W B b (q+4) w X):=by
 obtain⟨who,n,f,K,r,l,k,h4,i,a⟩:=h;refine(Cy W B w b who n f K pv sv p s r l A u x C (by omega) (fun c hc=>by have:=v c hc;omega) (by omega) k (by omega) (fun c hc=>by have:=i c hc;omega)).mono ?_;rintro e w' ⟨y,z,m,o,g1,g2,t,d⟩;have j:=fun g hg=>d.oth g (a g hg).1 (a g hg).2 (by have:=(a g hg).1;omega)
 exact⟨y,⟨z,_,m,o,g1,g2,by omega,by omega,fun c hc=>by have:=t c hc;have:=i c hc;omega,fun g hg=>⟨Nat.lt_of_lt_of_le (a g hg).1 d.size,(j g hg).2⟩⟩,fun g hg=>(j g hg).1⟩
theorem xH{fuel:Int}(h:HX W B b q w X)(hq:q<=4800000000000)(C:W.heap.size<=B)(v:ShpAt W)(y:ProgAt W pv p)(E:IntsAt W.heap.size W sv s)(u:oC sv)(D:fuel<=9223372036854775807)(hpl:p.length<=1048576)(x:∀ c∈p,c.length<=1048576)(hsl:s.length<=1048576):
  Calls Tryz.prog 8 #[pt b,pv,sv,.int .i64 fuel] w (Tru W B b (q+4) w X):=by
 obtain⟨who,n,f,K,r,l,k,h4,i,a⟩:=h;refine(wu W B w b who n f K pv sv p s fuel r l C v y E u D (by omega) (fun c hc=>by have:=x c hc;omega) (by omega) k (by omega) (fun c hc=>by have:=i c hc;omega)).mono ?_;rintro e w' ⟨z,A,m,o,g1,g2,t,d⟩;have j:=fun g hg=>d.oth g (a g hg).1 (a g hg).2 (by have:=(a g hg).1;omega)
 exact⟨z,⟨A,_,m,o,g1,g2,by omega,by omega,fun c hc=>by have:=t c hc;have:=i c hc;omega,fun g hg=>⟨Nat.lt_of_lt_of_le (a g hg).1 d.size,(j g hg).2⟩⟩,fun g hg=>(j g hg).1⟩
theorem xV(h:HX W B b q w X)(l:W.heap.size<=B)(v:ShpAt W)(y:ProgAt W pv p)(D:IntsAt W.heap.size W sv s)(hpl:p.length<=1048576)(x:∀ c∈p,c.length<=1048576)(hsl:s.length<=1048576)(j:IntsAt W.heap.size W tv t)(htl:t.length<=1048576):
  Calls Tryz.prog 9 #[pt b,pv,sv,tv] w (Tru W B b q w X):=by
 obtain⟨who,n,f,K,i,d,o,u,C,a⟩:=h;refine(yM W B w b who n f K pv sv tv p s t i d l v y D ((j.pres (iq d)).mono d.size) (my i.1 l j) (by omega) (fun c hc=>by have:=x c hc;omega) (by omega) (by omega)).mono ?_;rintro e w' ⟨z,A,r,g1,g2,k⟩;have m:=fun g hg=>k.oth g (a g hg).1 (a g hg).2 (by have:=(a g hg).1;omega)
 exact⟨z,⟨A,_,r,K,g1,g2,o,u,C,fun g hg=>⟨Nat.lt_of_lt_of_le (a g hg).1 k.size,(m g hg).2⟩⟩,fun g hg=>(m g hg).1⟩
theorem AL{rv:Value}{k0 k1 k2:Int}(h:HX W B b q w X)(z:W.heap.size<=B)(t:ShpAt W)(v:ProgAt W (.agg #[rv]) p)(D:IntsAt W.heap.size W sv s)(hpl:p.length<=1048576)(u:∀ c∈p,c.length<=1048576)(hsl:s.length<=1048576)(C:∀ c∈p,∀ i∈c,Db i):
  Calls Tryz.prog 11 #[pt b,.agg #[rv,sv,.int .i64 k0,.int .i64 k1,.int .i64 k2]] w (Tru W B b q w X):=by
 obtain⟨who,n,f,K,r,l,k,o,A,a⟩:=h;refine(Am W B w b who n f K rv sv p s k0 k1 k2 r l z t v D (by omega) (fun c hc=>by have:=u c hc;omega) (by omega) C).mono ?_;rintro e w' ⟨x,y,m,g1,g2,d⟩;have j:=fun g hg=>d.oth g (a g hg).1 (a g hg).2 (by have:=(a g hg).1;omega)
 exact⟨x,⟨y,_,m,K,g1,g2,k,o,A,fun g hg=>⟨Nat.lt_of_lt_of_le (a g hg).1 d.size,(j g hg).2⟩⟩,fun g hg=>(j g hg).1⟩
theorem zW{x:ByteArray}(h:HX W B b q w X)(hq:q<=4800000000000)(r:W.heap.size<=B)(m:ShpAt W)(s:x.size<=9223372036854775000):
  Calls Tryz.prog 12 #[pt b,.string x] w (Tru W B b (q+16) w (fun _=>False)):=by
 obtain⟨who,n,f,K,k,i,d,h4,a,_⟩:=h;refine(Aw W B w b who n f K x k i r m s d (by omega) (fun c hc=>by have:=a c hc;omega)).mono ?_;rintro e w' ⟨o,n',p,j,t,g0,g0',g1,g2,l⟩;exact⟨o,⟨p,n',j,t,g1,g2,by omega,by omega,fun c hc=>by have:=l c hc;have:=a c hc;omega,fun _ e=>e.elim⟩,fun _ e=>e.elim⟩
theorem A5(h:HX W B b q w X)(o:W.heap.size<=B)(j:Tab W)(t:IntsAt W.heap.size W sv s)(r:s.length<=1048576):
  Calls Tryz.prog 14 #[pt b,sv] w (Tru W B b q w (fun _=>False)):=by
 obtain⟨who,n,f,K,k,c,a,i,p,_⟩:=h;refine(Bf W B w b who n f K sv s k c o j t r).mono ?_;rintro e w' ⟨l,m,d,g1,g2,_⟩;exact⟨l,⟨m,_,d,K,g1,g2,a,i,p,fun _ e=>e.elim⟩,fun _ e=>e.elim⟩
theorem BL{x:ByteArray}(h:HX W B b q w X)(hq:q<=4800000000000)(p:W.heap.size<=B)(r:x.size<=1048576):
  Calls Tryz.prog 13 #[pt b,.string x] w (Tru W B b (q+16) w (fun _=>False)):=by
 obtain⟨who,n,f,K,k,i,d,h4,a,_⟩:=h;refine(Cl W B w b who n f K x k i p r d (by omega) (fun c hc=>by have:=a c hc;omega)).mono ?_;rintro e w' ⟨m,o,j,s,g1,g2,l⟩;exact⟨m,⟨o,_,j,s,g1,g2,by omega,by omega,fun c hc=>by have:=l c hc;have:=a c hc;omega,fun _ e=>e.elim⟩,fun _ e=>e.elim⟩
end
theorem yY:iD qB [0]=0:=by decide+kernel
theorem Bi:(iJ qB [0]).kind=5/\(iJ qB [0]).steps.length=1:=by decide+kernel
theorem x9:iV qB=true:=by decide+kernel
theorem AU{w:World}{g:Nat}{ty:TypeId}(h:w.heap[g]?=some (.cells #[.int .i64 0] ty (0,0))):IntsAt w.heap.size w (.slice (some ⟨g,0,none⟩) 1 1) [0]:=by
 refine⟨some ⟨g,0,none⟩,1,rfl,Nat.le_refl _,fun k hk=>⟨g,0,rfl,(Array.getElem?_eq_some_iff.1 h).1,?_⟩⟩;simp only [World.cell?,h];have hk':k<1:=hk;obtain rfl:k=0:=by omega
 rfl
theorem Bb{B:Nat}{w:World}{rv:Value}{c:Int}(h:ResV qB [0] B w rv c):c=0/\∃ t a x1 x3 v0 v1 v2 v3 y1 q y3,rv= .agg #[.int .i64 5,.int .i64 t,.int .i64 a,.slice x1 1 x3,.int .i64 v0,.int .i64 v1,.int .i64 v2,.int .i64 v3,.slice y1 q y3]:=by
 obtain⟨k,t,a,v0,v1,v2,v3,x1,x3,y1,y3,m,q,rfl,hc,e⟩:=h;rw [yY]at hc;rcases e with ⟨_,h1,_,_,_,_,_,_,h5,_⟩ | ⟨h0,_⟩
 ·obtain⟨d,b⟩:=Bi;rw [d]at h1;rw [b]at h5;subst h1 h5;exact⟨hc,_,_,_,_,_,_,_,_,_,_,_,rfl⟩
 ·exact absurd hc h0
theorem DU{x y:Nat}(h:x+y<=1048576):x*y<=274877906944:=by
 have key:∀ u d:Nat,u+d=524288->u*(524288+d)<=274877906944:=fun u d e=>by
  have h1:(u+d)*(u+d)=274877906944:=by rw [e]
  have h2:u*(524288+d)=u*(u+d)+u*d:=by rw [<-e,Nat.mul_add u (u+d) d]
  have h3:(u+d)*(u+d)=u*(u+d)+d*(u+d):=Nat.add_mul _ _ _;have h4:d*(u+d)=u*d+d*d:=by rw [Nat.mul_add,Nat.mul_comm d u]
  omega
 by_cases hx:x<=524288
 ·exact Nat.le_trans (Nat.mul_le_mul_left x (by omega:y<=524288+(524288 - x))) (key x (524288 - x) (by omega))
 ·rw [Nat.mul_comm];exact Nat.le_trans (Nat.mul_le_mul_left y (by omega:x<=524288+(524288 - y))) (key y (524288 - y) (by omega))
theorem Eh{p s b t:Nat}(h:2*p+s+b+t<=1048576):32*(p*s+b+t)<=4500000000000:=by
 have a:=DU (x:=2*p) (y:=s) (by omega);rw [Nat.mul_assoc]at a;omega
theorem ProgsAt.pres{w w':World}{v:Value}{P:List (List (List Ins))}(h:ProgsAt w v P)(a:Pres w w'):ProgsAt w' v P:=by
 obtain⟨b,j,e,hc⟩:=h;exact⟨b,j,e,fun i hi=>by obtain⟨g,o,f,rv,c,d⟩:=hc i hi;exact⟨g,o,f,rv,a _ _ c,d.pres a⟩⟩
theorem SchsAt.grown{w w':World}{v:Value}{S:List (List Int)}(h:SchsAt w v S)(a:w.grownBy w' none):SchsAt w' v S:=by
 obtain⟨b,j,e,hc⟩:=h;exact⟨b,j,e,fun i hi=>by obtain⟨g,o,f,rv,c,d,n⟩:=hc i hi;exact⟨g,o,f,rv,iq a _ _ c,(d.pres (iq a)).mono a.size,n⟩⟩
theorem ProgsAt.get{w:World}{b:Option Addr}{m:Nat}{P:List (List (List Ins))}(h:ProgsAt w (.slice b P.length m) P){i:Nat}(j:i<P.length):∃ g o,b=some ⟨g,o,none⟩/\∃ a c,w.cell? ⟨g,o+i,none⟩=some (.slice a P[i].length c)/\ProgAt w (.agg #[.slice a P[i].length c]) P[i]:=by
 obtain⟨ao',cap',e,hc⟩:=h;simp only [Value.slice.injEq,true_and]at e;obtain⟨g,o,l,rv,c,d⟩:=hc i j;obtain⟨a,k,f⟩:=d.form;simp only [Value.agg.injEq,Array.mk.injEq,List.cons.injEq,and_true]at f;subst f;exact⟨g,o,by rw [e.1];exact l,a,k,c,d⟩
theorem SchsAt.get{w:World}{b:Option Addr}{k:Nat}{S:List (List Int)}(h:SchsAt w (.slice b S.length k) S){i:Nat}(l:i<S.length):∃ g o,b=some ⟨g,o,none⟩/\∃ a c,w.cell? ⟨g,o+i,none⟩=some (.slice a S[i].length c)/\IntsAt w.heap.size w (.slice a S[i].length c) S[i]/\yW (.slice a S[i].length c):=by
 obtain⟨ao',cap',e,hc⟩:=h;simp only [Value.slice.injEq,true_and]at e;obtain⟨g,o,j,rv,c,d,n⟩:=hc i l;obtain⟨a,f,m⟩:=d.form;subst m;exact⟨g,o,by rw [e.1];exact j,a,f,c,d,n⟩
theorem wD{w:World}{a:Option Addr}{d:Nat}{L:List ByteArray}(h:StrsAt w (.slice a L.length d) L){i:Nat}(f:i<L.length):∃ g o,a=some ⟨g,o,none⟩/\w.cell? ⟨g,o+i,none⟩=some (.string L[i]):=by
 obtain⟨ao',cap',e,hc⟩:=h;simp only [Value.slice.injEq,true_and]at e;obtain⟨g,o,b,c⟩:=hc i f;exact⟨g,o,by rw [e.1];exact b,c⟩
end
section
open Go.RowKit
attribute [local go_sem] Go.World.cell?_alloc_some
theorem nO{w:World}{g:Nat}{x0:Value}{t:TypeId}(h:w.heap[g]?=some (.cells #[x0] t (0,0))):w.cell? ⟨g,0,none⟩=some x0:=by simp [World.cell?,h]
theorem BW{w:World}{g:Nat}{x0 x1 x2:Value}{t:TypeId}(h:w.heap[g]?=some (.cells #[x0,x1,x2] t (0,0))):w.cell? ⟨g,0,none⟩=some x0/\w.cell? ⟨g,1,none⟩=some x1/\w.cell? ⟨g,2,none⟩=some x2:=by simp [World.cell?,h]
theorem Gd(W:World)(pv sv bv tv:Value)(fuel:Int)(P:List (List (List Ins)))(S:List (List Int))(o r:List ByteArray)(hS:ShpAt W)(hT:Tab W)(hP:ProgsAt W pv P)(a2:SchsAt W sv S)(aT:StrsAt W bv o)(a0:StrsAt W tv r)(cF:fuel<=9223372036854775807)
  (hn:2*P.length+S.length+o.length+r.length<=1048576) (bG:∀ p∈P,p.length<=1048576/\∀ c∈p,c.length<=1048576/\∀ i∈c,Db i) (bZ:∀ s∈S,s.length<=1048576) (bN:∀ x∈o,x.size<=1048576) (bF:∀ x∈r,x.size<=1048576):
  Calls Tryz.prog 3 #[pv,sv,bv,tv,.int .i64 fuel] W fun e w'=>e= .returned (.bool true)/\W.grownBy w' none:=by
 obtain⟨pao,pcap,cW⟩:∃ ao cap,pv= .slice ao P.length cap:=⟨_,_,hP.choose_spec.choose_spec.1⟩;obtain⟨sao,scap,cO⟩:∃ ao cap,sv= .slice ao S.length cap:=⟨_,_,a2.choose_spec.choose_spec.1⟩;obtain⟨bao,bcap,cD⟩:∃ ao cap,bv= .slice ao o.length cap:=⟨_,_,aT.choose_spec.choose_spec.1⟩;obtain⟨tao,tcap,cl⟩:∃ ao cap,tv= .slice ao r.length cap:=⟨_,_,a0.choose_spec.choose_spec.1⟩;subst cW cO cD cl;have bR:=il (Eh hn);have HS:=il hS;have HT:=il hT;have HP:=il hP;have HC:=il a2;have bV:=il aT;have bd:=il a0;have cX:=il bG;have aQ:=il bZ;have co:=il bN;have cw:=il bF;have G:∀ q,pt q= .pointer (some ⟨q,0,none⟩):=fun _=>rfl
 have hl1:(P.length:Int)<=1048576:=by omega
 have hl2:(S.length:Int)<=1048576:=by omega
 have hl3:(o.length:Int)<=1048576:=by omega
 have hl4:(r.length:Int)<=1048576:=by omega
 clear hS hT hP a2 aT a0 bG bZ bN bF hn;go_enter Tryz.func3,Tryz.ntmps3
 go_wp2_with fail
 refine(uF _).mono ?_;rintro e Z ⟨cv,rfl,K,bb⟩;have a6:Hid (W.grownBy Z none):=bb;have bq:=il K;obtain⟨bh,bB,a7⟩:=K.form;subst a7;clear bb K;go_wp2_with fail
 obtain⟨R,ay⟩:∃ R,R=Z.alloc (.cells #[.int .i64 0] 3):=⟨_,rfl⟩;rw [<-ay];have al:Hid (Z.grownBy R none):=by unfold Hid;rw [ay];exact ir (iu _ _)
 have b8:Hid (IntsAt R.heap.size R (.slice (some ⟨Z.heap.size,0,none⟩) 1 1) [0]):=by
  unfold Hid;rw [ay];exact AU (heap_alloc_new Z _)
 clear ay;refine(wL qB [0] _ _ R (HS.out.pres (iq (ip a6.out al.out))) (bq.out.pres (iq al.out)) b8.out).mono ?_;intro e w3 hR;obtain⟨b3,rv,c,he,hV⟩:=hR.form;clear hR;subst he;obtain⟨cZ,t5,a5,x1,x3,v0,v1,v2,v3,y1,yq,y3,cK⟩:=Bb hV;clear hV;subst cZ cK;have cg:Hid (W.grownBy w3 none):=ip a6.out (ip al.out b3);clear b3 bq b8 al a6;go_upto_region 2 with fail
 obtain⟨f,aA⟩:∃ f,f=w3.alloc (.cells #[.int .i64 5,.int .i64 t5,.int .i64 a5,.slice x1 1 x3,.int .i64 v0,.int .i64 v1,.int .i64 v2,.int .i64 v3,.slice y1 yq y3] 31):=⟨_,rfl⟩;have cd:f.heap[w3.heap.size]?=some (.cells #[.int .i64 5,.int .i64 t5,.int .i64 a5,.slice x1 1 x3,.int .i64 v0,.int .i64 v1,.int .i64 v2,.int .i64 v3,.slice y1 yq y3] 31 (0,0)):=by rw [aA];exact heap_alloc_new w3 _
 rw [<-aA];have J:Hid (W.grownBy f none):=by unfold Hid;rw [aA];exact ir cg.out
 clear aA cg;obtain⟨r0,r1,r2,r3,r4,_,_,_,_,_⟩:=kw cd;clear cd;go_upto_region 5 with fail
 clear r0 r1 r2 r3 r4;obtain⟨w5,am⟩:∃ w5,w5=f.alloc (.cells (hcl f00) 45):=⟨_,rfl⟩;have ci:f.alloc (.cells #[.slice none 0 0,.slice none 0 0,.slice none 0 0,.slice none 0 0,.slice none 0 0,.int .i64 0,.slice none 0 0,.slice none 0 0,.slice none 0 0,.slice none 0 0,.slice none 0 0,.slice none 0 0,.slice none 0 0,.slice none 0 0,.slice none 0 0,.slice none 0 0] 45)=w5:=by rw [am];rfl
 rw [ci];have aZ:Hid (HX f f.heap.size f.heap.size 0 w5 (fun _=>False)):=HX.start (by rw [am];exact heap_alloc_new f _) (by rw [am];exact ir (iu _ _));clear am ci;have Q:=il (HS.out.pres (iq J.out));have cQ:=il (HT.out.grown J.out);have cq:=il (HP.out.pres (iq J.out));have aR:=il (HC.out.grown J.out);have c6:=il (bV.out.pres (iq J.out));have cJ:=il (bd.out.pres (iq J.out));clear HS HT HP HC bV bd;obtain⟨b,hb⟩:∃ b,b=f.heap.size:=⟨_,rfl⟩;rw [<-hb]at aZ ⊢;have H:Hid (f.heap.size<=b):=by unfold Hid;omega
 clear hb;obtain⟨y,a1⟩:∃ t,t=P.length*S.length+o.length+r.length:=⟨_,rfl⟩;rw [<-a1]at bR;have cj:=il a1;clear a1;go_wp2_with fail
 go_loopw [14,15] (fun okv av w'=>∃ a:Nat,a<=2/\okv= .bool true/\av= .int .i64 a/\Hid (HX f b b (16*(a*y)) w' (fun _=>False))) (fun _ av _=>2 - (intOf av).toNat)
 case atStart=>exact⟨0,by omega,rfl,rfl,by rw [Nat.zero_mul];exact aZ⟩
 case round=>
  clear aZ;obtain⟨a,ha,rfl,rfl,HA⟩:=hrel;obtain⟨wa,bz⟩:∃ wa,wa=wr:=⟨_,rfl⟩;rw [<-bz]at HA ⊢;clear bz;by_cases hlt:a<2
  ·have q1:(a:Int)<2:=by omega
   have c8:Hid (16*((a+1)*y)=16*(a*y)+16*y):=by unfold Hid;rw [Nat.add_mul,Nat.one_mul,Nat.mul_add]
   have bH:Hid (16*(a*y)+16*y<=4500000000000):=by
    unfold Hid;have h1:a*y<=1*y:=Nat.mul_le_mul_right y (by omega);have:=bR.out;omega
   generalize 16*(a*y)=q0 at*;go_wp2_with fail
   go_loopw [14,16] (fun okv iv w'=>∃ i:Nat,i<=P.length/\okv= .bool true/\iv= .int .i64 i/\Hid (HX f b b (q0+16*(i*S.length)) w' (fun _=>False))) (fun _ iv _=>P.length - (intOf iv).toNat)
   case atStart=>exact⟨0,Nat.zero_le _,rfl,rfl,by rw [Nat.zero_mul];exact HA⟩
   case round=>
    clear HA;obtain⟨i,hi,rfl,rfl,HI⟩:=hrel;obtain⟨wi,bn⟩:∃ wi,wi=wr:=⟨_,rfl⟩;rw [<-bn]at HI ⊢;clear bn;by_cases aX:i<P.length
    ·have q2:(i:Int)<P.length:=by omega
     have q20:(0:Int)<=(i:Int):=by omega
     have bl:Hid (q0+16*((i+1)*S.length)=q0+16*(i*S.length)+16*S.length):=by unfold Hid;rw [Nat.add_mul,Nat.one_mul,Nat.mul_add];omega
     have c4:Hid (q0+16*(i*S.length)+16*S.length<=4500000000000):=by
      unfold Hid;have h1:(i+1)*S.length<=P.length*S.length:=Nat.mul_le_mul_right _ aX;have h2:=bl.out;have h3:=bH.out;have h4:=cj.out;omega
     generalize q0+16*(i*S.length)=qi at*;obtain⟨pg,po,rfl,l,m,bO,bK⟩:=cq.out.get aX;have cC:=il bO;have af:=il bK;have A:=il (cX.out _ (List.getElem_mem aX));clear bO bK;generalize P[i]=p at*;go_wp2_with fail
     go_loopw [14,17] (fun okv kv w'=>∃ k:Nat,k<=S.length/\okv= .bool true/\kv= .int .i64 k/\Hid (HX f b b (qi+16*k) w' (fun _=>False))) (fun _ kv _=>S.length - (intOf kv).toNat)
     case atStart=>exact⟨0,Nat.zero_le _,rfl,rfl,by rw [Nat.mul_zero];exact HI⟩
     case round=>
      clear HI;obtain⟨k,hk,rfl,rfl,M⟩:=hrel;obtain⟨F,bX⟩:∃ F,F=wr:=⟨_,rfl⟩;rw [<-bX]at M ⊢;clear bX;by_cases b7:k<S.length
      ·have q3:(k:Int)<S.length:=by omega
       have c9:(0:Int)<=(k:Int):=by omega
       have q31:(0:Int)<S.length:=by omega
       have q32:0<S.length:=by omega
       have aY:Hid (qi+16*k+16<=4500000000000):=by unfold Hid;have:=c4.out;omega
       have aP:Hid (qi+16*(k+1)=qi+16*k+16):=by unfold Hid;omega
       generalize qi+16*k=qk at*;obtain⟨sg,so,rfl,B,D,U,ac,b4⟩:=aR.out.get b7;obtain⟨sg',so',e0,za,zc,a3,bW,_⟩:=aR.out.get (show 0<S.length by omega);simp only [Option.some.injEq,Addr.mk.injEq,and_true]at e0;obtain⟨rfl,rfl⟩:=e0;rw [Nat.add_zero]at a3;have cr:=il U;have T:=il ac;have cS:Hid (oC (.slice B S[k].length D)):=fun n c e=>b4 n c e
       have bw:=il a3;have cV:=il bW;have E:=il (aQ.out _ (List.getElem_mem b7));have cH:=il (aQ.out _ (List.getElem_mem (show 0<S.length by omega)));clear U ac b4 a3 bW;generalize S[k]=s at*;generalize S[0]=z at*;have f1:=iq M.out.base _ _ cC.out;have f2:=iq M.out.base _ _ cr.out;go_upto_region 17 with fail
       obtain⟨I,aD⟩:∃ I,I=F.alloc (.cells #[.slice l p.length m] 37):=⟨_,rfl⟩;have aL:Hid (I.heap[F.heap.size]?=some (.cells #[.slice l p.length m] 37 (0,0))):=by unfold Hid;rw [aD];exact heap_alloc_new F _
       have C:Hid (HX f b b qk I (fun g=>False\/g=F.heap.size)):=by unfold Hid;rw [aD];exact M.out.made _
       rw [<-aD];clear aD f1 f2 M;generalize F.heap.size=n18 at*;have f1:=nO aL.out;have d:=il (xR (pv:= .agg #[.slice l p.length m]) (sv:= .slice B s.length D) C.out (by have:=aY.out;omega) H.out Q.out af.out T.out A.out.1 (fun c hc=>(A.out.2 c hc).1) E.out);rw [G]at d;clear C;go_wp2_with fail
       refine d.out.mono ?_;clear d f1;rintro e u3 ⟨rfl,ai,bk⟩;have aI:Hid (u3.heap[n18]?=some (.cells #[.slice l p.length m] 37 (0,0))):=(bk n18 (Or.inr rfl)).trans aL.out;have f1:=nO aI.out;have d:=il (Dk (pv:= .agg #[.slice l p.length m]) (sv:= .slice B s.length D) ai (by have:=aY.out;omega) H.out Q.out af.out T.out A.out.1 (fun c hc=>(A.out.2 c hc).1) E.out);rw [G]at d;clear ai bk aL;go_wp2_with fail
       refine d.out.mono ?_;clear d f1;rintro e u4 ⟨rfl,ck,bE⟩;have aH:Hid (u4.heap[n18]?=some (.cells #[.slice l p.length m] 37 (0,0))):=(bE n18 (Or.inr rfl)).trans aI.out;have f1:=nO aH.out;have d:=il (xH (pv:= .agg #[.slice l p.length m]) (sv:= .slice B s.length D) (fuel:=fuel) ck (by have:=aY.out;omega) H.out Q.out af.out T.out cS.out cF A.out.1 (fun c hc=>(A.out.2 c hc).1) E.out);rw [G]at d;clear ck bE aI;go_wp2_with fail
       refine d.out.mono ?_;clear d f1;rintro e u5 ⟨rfl,aE,cf⟩;have aU:Hid (u5.heap[n18]?=some (.cells #[.slice l p.length m] 37 (0,0))):=(cf n18 (Or.inr rfl)).trans aH.out;have bp:=il aE;have d:=il (xV (pv:= .agg #[.slice l p.length m]) (sv:= .slice B s.length D) (tv:= .slice za z.length zc) (aE.grown (iz (iu _ _))) H.out Q.out af.out T.out A.out.1 (fun c hc=>(A.out.2 c hc).1) E.out cV.out cH.out);rw [G]at d;clear aE cf aH;go_upto_region 20 with fail
       have bf:u5.drew.cell? ⟨n18,0,none⟩=some (.slice l p.length m)/\u5.drew.cell? ⟨sg,so,none⟩=some (.slice za z.length zc):=⟨nO (w:=u5.drew) aU.out,iq (iz bp.out.base) _ _ bw.out⟩;refine iA (fun u=>u.cell? ⟨n18,0,none⟩=some (.slice l p.length m)/\u.cell? ⟨sg,so,none⟩=some (.slice za z.length zc)) 7 (by kernel_rfl) (by kernel_rfl) bf ?_;intro L;refine ij 0 ?v0 rfl (by kernel_rfl) (fun _ _ _ h=>h) (by kernel_rfl) ?y0 L ?_
       case y0=>(rintro u ⟨V,ag⟩;go_simp;try rfl)
       simp only [Act.put,List.setIfInBounds_toArray];refine ij 1 ?v1 rfl (by kernel_rfl) (fun _ _ _ h=>h) (by kernel_rfl) ?y1 L ?_
       case y1=>(rintro u ⟨V,ag⟩;go_simp;try rfl)
       simp only [Act.put];refine ij 2 ?v2 rfl (by kernel_rfl) (fun _ _ _ h=>h) (by kernel_rfl) ?y2 L ?_
       case y2=>(rintro u ⟨V,ag⟩;go_simp;try rfl)
       simp only [Act.put];refine ij 3 ?v3 rfl (by kernel_rfl) (fun _ _ _ h=>h) (by kernel_rfl) ?y3 L ?_
       case y3=>(rintro u ⟨V,ag⟩;go_simp;try rfl)
       simp only [Act.put];refine ij 4 ?v4 rfl (by kernel_rfl) (fun _ _ _ h=>h) (by kernel_rfl) ?y4 L ?_
       case y4=>(rintro u ⟨V,ag⟩;go_simp;first | done | rfl | exact rfl)
       simp only [Act.put];refine ij 5 ?v5 rfl (by kernel_rfl) (fun _ _ _ h=>h) (by kernel_rfl) ?y5 L ?_
       case y5=>(rintro u ⟨V,ag⟩;go_simp;try rfl)
       simp only [Act.put];refine iw (i:=6) rfl (by kernel_rfl) (by kernel_rfl) (by kernel_rfl) ?_;intro K6 bJ;have bx:=il bJ;clear bJ;go_simp;refine d.out.mono ?_;clear d;rintro e u6 ⟨rfl,aW,bm⟩;have an:Hid (u6.heap[n18]?=some (.cells #[.slice l p.length m] 37 (0,0))):=(bm n18 (Or.inr rfl)).trans aU.out;have ar:=il aW;have b9:u6.cell? ⟨n18,0,none⟩=some (.slice l p.length m)/\u6.cell? ⟨sg,so,none⟩=some (.slice za z.length zc):=⟨nO an.out,iq aW.base _ _ bw.out⟩;refine bx.out _ _ b9 ?_;clear bx aW bm;try simp only [Act.put,List.setIfInBounds_toArray]
       refine iI rfl (by kernel_rfl) (by kernel_rfl) (by kernel_rfl) ?_;go_simp;clear L b9 bf bp aU;go_wp2_with fail
       refine(uF _).mono ?_;rintro e u7 ⟨cv,rfl,K,X⟩;obtain⟨bh,bB,a7⟩:=K.form;subst a7;have ca:=il (ar.out.grown X);have bY:=il (pF u7 bh bB qB (.slice B s.length D) s x9 K ((T.out.pres (iq (ip ar.out.base X))).mono (ip ar.out.base X).size) E.out);have aF:Hid (u7.heap[n18]?=some (.cells #[.slice l p.length m] 37 (0,0))):=by unfold Hid;rw [X.block _ (Array.getElem?_eq_some_iff.1 an.out).1 (by simp)];exact an.out
       clear K X ar an;go_wp2_with fail
       refine bY.out.mono ?_;clear bY;rintro e N ⟨rb,rab,rrb,rst,rfl,aw⟩;generalize (iJ qB s).kind=vk at*;generalize (iJ qB s).thread=vt at*;generalize (iJ qB s).at_=va at*;obtain⟨_,c5,cR,cG,_,_,_⟩:=aw.vcells;have bA:=il (ca.out.grown aw.frame);have aN:Hid (N.heap[n18]?=some (.cells #[.slice l p.length m] 37 (0,0))):=by unfold Hid;rw [aw.frame.block _ (Array.getElem?_eq_some_iff.1 aF.out).1 (by simp)];exact aF.out
       clear aw ca aF;go_upto_region 22 with fail
       clear c5 cR cG;obtain⟨Y,au⟩:∃ Y,Y=N.alloc (.cells #[.int .i64 vk,.int .i64 vt,.int .i64 va] 26):=⟨_,rfl⟩;have aO:N.grownBy Y none:=by rw [au];exact ir (iu _ _)
       have bM:Y.heap[N.heap.size]?=some (.cells #[.int .i64 vk,.int .i64 vt,.int .i64 va] 26 (0,0)):=by rw [au];exact heap_alloc_new N _
       rw [<-au];clear au;have bc:=il (bA.out.grown aO);have bt:Y.heap[n18]?=some (.cells #[.slice l p.length m] 37 (0,0)):=by rw [aO.block _ (Array.getElem?_eq_some_iff.1 aN.out).1 (by simp)];exact aN.out
       have f1:=nO bt;obtain⟨f2,f3,f4⟩:=BW bM;have d:=il (AL (rv:= .slice l p.length m) (sv:= .slice B s.length D) (k0:=vk) (k1:=vt) (k2:=va) bc.out H.out Q.out af.out T.out A.out.1 (fun c hc=>(A.out.2 c hc).1) E.out (fun c hc=>(A.out.2 c hc).2));rw [G]at d;clear aO bM bt bc bA aN;generalize N.heap.size=n24 at*;go_wp2_with fail
       refine d.out.mono ?_;clear d f1 f2 f3 f4;rintro e c2 ⟨rfl,b5,_⟩;have bT:Hid (HX f b b (qk+16) c2 (fun _=>False)):=(b5.mono (by omega)).less (fun _ e=>e.elim);rw [<-aP.out]at bT;clear b5;go_wp2_with fail
       go_roundw
       case rel=>exact⟨k+1,by omega,by simp,by go_num,bT⟩
       case measure=>simp [intOf];omega
      ·have q3:(S.length:Int)<=(k:Int):=by omega
       have ek:k=S.length:=by omega
       subst ek;have aP:Hid (HX f b b (q0+16*((i+1)*S.length)) F (fun _=>False)):=by unfold Hid;rw [bl.out];exact M.out
       clear M;go_wp2_with fail
       go_roundw
       case rel=>exact⟨i+1,by omega,by simp,by go_num,aP⟩
       case measure=>simp [intOf];omega
    ·have q2:(P.length:Int)<=(i:Int):=by omega
     have ei:i=P.length:=by omega
     subst ei;have b2:Hid (q0+16*(P.length*S.length)+16*o.length+16*r.length<=4500000000000/\q0+16*(P.length*S.length)+16*o.length+16*r.length=q0+16*y):=by
      unfold Hid;have h3:=bH.out;have h4:=cj.out;omega
     generalize q0+16*(P.length*S.length)=qb at*;go_wp2_with fail
     go_loopw [14,26] (fun okv jv w'=>∃ j:Nat,j<=o.length/\okv= .bool true/\jv= .int .i64 j/\Hid (HX f b b (qb+16*j) w' (fun _=>False))) (fun _ jv _=>o.length - (intOf jv).toNat)
     case atStart=>exact⟨0,Nat.zero_le _,rfl,rfl,by rw [Nat.mul_zero];exact HI⟩
     case round=>
      clear HI;obtain⟨j,hj,rfl,rfl,v⟩:=hrel;obtain⟨O,ad⟩:∃ O,O=wr:=⟨_,rfl⟩;rw [<-ad]at v ⊢;clear ad;by_cases ah:j<o.length
      ·have q3:(j:Int)<o.length:=by omega
       have c9:(0:Int)<=(j:Int):=by omega
       have aV:Hid (qb+16*j+16<=4500000000000):=by unfold Hid;have:=b2.out.1;omega
       have aJ:Hid (qb+16*(j+1)=qb+16*j+16):=by unfold Hid;omega
       generalize qb+16*j=qj at*;obtain⟨bg,bo,rfl,bL⟩:=wD c6.out ah;have hbb:=co.out _ (List.getElem_mem ah);generalize o[j]=x at*;have f1:=iq v.out.base _ _ bL;have d:=il (zW (x:=x) v.out (by have:=aV.out;omega) H.out Q.out (by omega));rw [G]at d;clear v bL;go_wp2_with fail
       refine d.out.mono ?_;clear d f1;rintro e I ⟨rfl,ae,_⟩;have C:Hid (HX f b b (qb+16*(j+1)) I (fun _=>False)):=by unfold Hid;rw [aJ.out];exact ae
       clear ae;go_wp2_with fail
       go_roundw
       case rel=>exact⟨j+1,by omega,by simp,by go_num,C⟩
       case measure=>simp [intOf];omega
      ·have q3:(o.length:Int)<=(j:Int):=by omega
       have ej:j=o.length:=by omega
       subst ej;have ba:=il b2.out;generalize qb+16*o.length=qt at*;go_wp2_with fail
       go_loopw [14,27] (fun okv jv w'=>∃ j:Nat,j<=r.length/\okv= .bool true/\jv= .int .i64 j/\Hid (HX f b b (qt+16*j) w' (fun _=>False))) (fun _ jv _=>r.length - (intOf jv).toNat)
       case atStart=>exact⟨0,Nat.zero_le _,rfl,rfl,by rw [Nat.mul_zero];exact v⟩
       case round=>
        clear v;obtain⟨j,hj,rfl,rfl,v⟩:=hrel;obtain⟨O,ad⟩:∃ O,O=wr:=⟨_,rfl⟩;rw [<-ad]at v ⊢;clear ad;by_cases ah:j<r.length
        ·have q4:(j:Int)<r.length:=by omega
         have q40:(0:Int)<=(j:Int):=by omega
         have aV:Hid (qt+16*j+16<=4500000000000):=by unfold Hid;have:=ba.out.1;omega
         have aJ:Hid (qt+16*(j+1)=qt+16*j+16):=by unfold Hid;omega
         generalize qt+16*j=qj at*;obtain⟨tg,to_,rfl,cb⟩:=wD cJ.out ah;have cN:=cw.out _ (List.getElem_mem ah);generalize r[j]=x at*;have f1:=iq v.out.base _ _ cb;have d:=il (BL (x:=x) v.out (by have:=aV.out;omega) H.out cN);rw [G]at d;clear v cb;go_wp2_with fail
         refine d.out.mono ?_;clear d f1;rintro e I ⟨rfl,ae,_⟩;have C:Hid (HX f b b (qt+16*(j+1)) I (fun _=>False)):=by unfold Hid;rw [aJ.out];exact ae
         clear ae;by_cases bC:j<S.length
         ·have q5:(j:Int)<S.length:=by omega
          obtain⟨sg,so,rfl,B,D,U,ac,_⟩:=aR.out.get bC;have E:=aQ.out _ (List.getElem_mem bC);generalize S[j]=s at*;have f2:=iq C.out.base _ _ U;have d:=il (A5 (sv:= .slice B s.length D) C.out H.out cQ.out ac E);rw [G]at d;clear C U ac E;go_wp2_with fail
          refine d.out.mono ?_;clear d f2;rintro e u3 ⟨rfl,ai,_⟩;have cm:=il ai;clear ai;go_wp2_with fail
          go_roundw
          case rel=>exact⟨j+1,by omega,by simp,by go_num,cm⟩
          case measure=>simp [intOf];omega
         ·have q5:(S.length:Int)<=(j:Int):=by omega
          go_wp2_with fail
          go_roundw
          case rel=>exact⟨j+1,by omega,by simp,by go_num,C⟩
          case measure=>simp [intOf];omega
        ·have q4:(r.length:Int)<=(j:Int):=by omega
         have ej:j=r.length:=by omega
         subst ej;have aK:Hid (HX f b b (16*((a+1)*y)) O (fun _=>False)):=by unfold Hid;rw [c8.out,<-ba.out.2];exact v.out
         clear v;go_wp2_with fail
         go_roundw
         case rel=>exact⟨a+1,by omega,by simp,by go_num,aK⟩
         case measure=>simp [intOf];omega
  ·have q1:(2:Int)<=(a:Int):=by omega
   have aK:=il (ip J.out HA.out.base);clear HA;go_wp2_with fail
   go_ret;exact⟨rfl,aK.out⟩
end
section
open Go.ChangeShapes Go.WideShapes Go.ChangeAt Go.RowKit Go.Joins
theorem Gb:Tryz.prog.globalNamed "internal/strconv.uint64pow10" =some 2:=by kernel_rfl
theorem Gh:(Tryz.prog.globals[2]?).map (·.type)=some 275:=by kernel_rfl
theorem F3:Tryz.prog.cellsOf 275=20:=by kernel_rfl
theorem FV:Tryz.prog.cellsOf 142=1:=by kernel_rfl
theorem uV{W:World}(h:laidMetH Tryz.prog Rows.allUptoRow.laid W):Tab W/\ShpAt W:=by
 have f:laidMet Tryz.prog Rows.allUptoRow.laid W:=h;obtain⟨ps,⟨_,_,_,_,_,_,_,_,_,_,⟨_,_,_,_,_,_,_,_,_,_,⟨g,t,cs,fuel,p,q,i,l,c,b,⟨g0,t0,cs0,f0,p0,q0,j,d,e,a,_⟩,_⟩,_⟩,_⟩,_,_⟩:=f;refine⟨?_,DP j d e a⟩;obtain rfl:=Option.some.inj (Gb.symm.trans i);obtain rfl:=Option.some.inj (Gh.symm.trans l);have k:DataW.trod (fun _=>()) Tryz.prog W 0 (fun _=>true) false fuel 275 cs.toList=some (Lib.tabData .u64 Lib.pow10Tab,p):=b;have hc:=Lib.cells_of_tab Tryz.underlying275 Tryz.underlying142 FV F3 k;unfold Tab Lib.TabIs;rw [c,<-hc]
theorem vD(H:Type)(enc:TypeId × Value->H)(W:World)(base:Nat)(args:Array Value)(k Q:List (DataW H))(ac:List MemPlace)
  (d:∀ (j:Nat) t v,Tryz.f3.params[j]?=some t->args[j]?=some v->Value.okWide Tryz.prog W .any base t v)
  (L:DataW.Whole enc Tryz.prog Tryz.f3.params.toList Rows.allSpec.vars false W args.toList k Q ac) (R:Rows.uptoSmall H (k++Q)=true) (hL:laidMetH Tryz.prog Rows.allUptoRow.laid W):
  Calls Tryz.prog 3 args W fun e W'=>∃ v,e= .returned v/\Rows.allSpec.post enc Tryz.prog Tryz.f3 false true false false W args v W':=by
 have O:=L;obtain⟨p,q,K,U,rfl,hfz,hnd⟩:=L;have a:DataW.TrodAll enc Tryz.prog W 0 (fun _=>true) true Tryz.f3.params.toList args.toList k p:=K;rw [Tryz.params3]at a d;obtain⟨m,vs0,d0,ds0,J,q0,o,rfl,rfl,N,a⟩:=trodAll_cons a;obtain⟨n,vs1,d1,ds1,A,q1,rfl,rfl,rfl,C,a⟩:=trodAll_cons a;obtain⟨u,vs2,d2,ds2,F,q2,rfl,rfl,rfl,z,a⟩:=trodAll_cons a;obtain⟨r,vs3,d3,ds3,M,q3,rfl,rfl,rfl,G,a⟩:=trodAll_cons a;obtain⟨E,D,d4,y,B,q4,rfl,rfl,rfl,I,a⟩:=trodAll_cons a;obtain⟨rfl,rfl,rfl⟩:D=[]/\y=[]/\q4=[]:=by
  cases D<;>cases y<;>simp [DataW.TrodAll]at a
  exact⟨rfl,rfl,a⟩
 obtain rfl:args=#[m,n,u,r,E]:=by
  obtain⟨l⟩:=args;simp at o;rw [o]
 obtain⟨rfl,rfl⟩:=trodVars_none U;clear K a o;have ag:=of_decide_eq_true R;simp only [List.append_nil,Rows.uptoBulkAll]at ag;obtain⟨P,a1,a2,w⟩:=Bl (d 0 22 m rfl rfl) N;obtain⟨S,X,b2,V⟩:=Cb (d 1 23 n rfl rfl) C;obtain⟨T,c1,c2,c3⟩:=wN (d 2 24 u rfl rfl) z;obtain⟨Ts,ad,d2',Y⟩:=wN (d 3 24 r rfl rfl) G;obtain⟨fuel,rfl,Z⟩:=EF (d 4 3 E rfl rfl) I;obtain⟨hT,hS⟩:=uV hL;refine(Gd W m n u r fuel P S T Ts hS hT a1 X c1 ad Z.2 (by omega) (fun p hp=>⟨by have:=(w p hp).1;omega,fun c hc=>⟨by have:=((w p hp).2 c hc).1;omega,fun i hi=>((w p hp).2 c hc).2 i hi⟩⟩) (fun s hs=>by have:=V s hs;omega) (fun x hx=>by have:=c3 x hx;omega) (fun x hx=>by have:=Y x hx;omega)).mono fun e W' ⟨he,hg⟩=>?_
 subst he;have b:=wM hg;have f:∀ x∈J++(A++(F++(M++(B++[])))),x.block<W.heap.size:=fun x hx=>by simpa using O.lt x (by simpa using hx)
 refine⟨_,rfl,_,_,_,[]++[],J++(A++(F++(M++(B++[])))),[],O,trodAll_cons_mk (shut_bool Tryz.underlying4 _) trodAll_mk0,?_,rfl,b.frame _,fun h=>by cases h⟩;rw [Tryz.params3];exact trodAll_cons_mk (Below.trod qr (by kernel_rfl) (of_decide_eq_true (by kernel_rfl)) N b (fun x hx=>f x (by simp [hx])))
  (trodAll_cons_mk (Below.trod qr (by kernel_rfl) (of_decide_eq_true (by kernel_rfl)) C b (fun x hx=>f x (by simp [hx])))
  (trodAll_cons_mk (Below.trod qr (by kernel_rfl) (of_decide_eq_true (by kernel_rfl)) z b (fun x hx=>f x (by simp [hx])))
  (trodAll_cons_mk (Below.trod qr (by kernel_rfl) (of_decide_eq_true (by kernel_rfl)) G b (fun x hx=>f x (by simp [hx])))
  (trodAll_cons_mk (Below.trod qr (by kernel_rfl) (of_decide_eq_true (by kernel_rfl)) I b (fun x hx=>f x (by simp [hx])))
   trodAll_mk0))))
theorem BR(os:Os):laidMetH Tryz.prog Rows.allUptoRow.laid ((World.doorLaid Tryz.prog 400 os).forCall (fun _ _=>0) ⟨#[],#[.slice none 0 0,.slice none 0 0,.slice none 0 0,.slice none 0 0,.int .i64 0],[]⟩).memory:=
 laidMetH_of_parts3 (fuel:=8) (laidMet_of_run' 8 (by kernel_rfl) (by kernel_rfl)) (by kernel_rfl) (by kernel_rfl)
theorem Aj(os:Os){H:Type}(enc:TypeId × Value->H):∃ places,DataW.whole enc Tryz.prog ((World.doorLaid Tryz.prog 400 os).forCall (fun _ _=>0) ⟨#[],#[.slice none 0 0,.slice none 0 0,.slice none 0 0,.slice none 0 0,.int .i64 0],[]⟩).memory Tryz.f3.params.toList Rows.allSpec.vars false #[Value.slice none 0 0,.slice none 0 0,.slice none 0 0,.slice none 0 0,.int .i64 0].toList 8=some ([.nil,.nil,.nil,.nil,.lit (.int .i64 0)],[],places):=
 ⟨[],by kernel_rfl⟩
theorem xN(a:Os)(e:a.Started)(H:Type)(enc:TypeId × Value->H)(F:Stop.Interp):
  ReturnsInHanded {} Tryz.checked a 3 .any ((Rows.OpenSpec.upto Rows.allSpec).preRow enc Tryz.prog Tryz.f3 Rows.allUptoRow.domain false Rows.allUptoRow.laid) (((Rows.OpenSpec.upto Rows.allSpec).at F).post enc Tryz.prog Tryz.f3 false true false false):=by
 obtain⟨places,i⟩:=Aj a enc;refine returnsInHanded_of_row (C:=Tryz.checked) (s:=Rows.OpenSpec.upto Rows.allSpec) own e (by kernel_rfl) Tryz.func3
  (witness_row_atRef (enc:=enc) (C:=Tryz.checked) false (World.doorLaid Tryz.prog 400 a) #[.slice none 0 0,.slice none 0 0,.slice none 0 0,.slice none 0 0,.int .i64 0] rfl (by kernel_rfl) (by kernel_rfl) (by kernel_rfl)
   (OpenSpec.preRow_of_cond 8 i (by kernel_rfl) (fun k hk=>by cases hk;kernel_rfl) (by kernel_rfl) (BR a))) ?_
 intro W base args c l h b j _ f _ d _ _;exact vD H enc W base args c l h b j (f _ rfl) d
theorem CI:Rows.AllUptoSaid:=
 OpenClaim.holds_of_cond 3 Tryz.f3 rfl rfl rfl rfl rfl rfl rfl ⟨rfl,rfl,rfl,rfl,rfl⟩ rfl rfl rfl rfl rfl (by kernel_rfl) Tryz.func3 (by kernel_rfl)
  (of_decide_eq_true (by kernel_rfl)) (by unfold Func.isWrapper;first | (rw [if_pos (by decide+kernel)];kernel_rfl) | (rw [if_neg (by decide+kernel)];exact⟨rfl,rfl⟩))
  (fun os started H enc _ F=>by rw [OpenClaim.pre_eq_preRow];exact xN os started H enc F)
theorem A4(f:FuncId)(a:Func)(b:Tryz.pinned.checked.prog.funcNamed "rerun/rerunlaw.All" =some f)(e:Tryz.pinned.checked.prog.funcs[f]?=some a):
  Rows.allUptoCard.stood.looks=Tryz.pinned.checked.prog.looks []/\∀ (j:Nat) t,a.params[j]?=some t->Tryz.pinned.checked.prog.wantsStandIn t=false:=by
 obtain rfl:f=3:=Option.some.inj ((show Tryz.prog.funcNamed "rerun/rerunlaw.All" =some 3 by kernel_rfl).symm.trans b) |>.symm
 obtain rfl:a=Tryz.f3:=(Option.some.inj (Tryz.func3.symm.trans e)).symm;refine⟨by kernel_rfl,fun j t ht=>?_⟩;rw [Tryz.params3]at ht;have d:t∈[22,23,24,24,3]:=by simpa using Array.mem_of_getElem? ht
 have c:([22,23,24,24,3].all fun u=>!Tryz.prog.wantsStandIn u)=true:=by kernel_rfl
 exact(show Tryz.prog.wantsStandIn t=false by simpa using List.all_eq_true.1 c t d)
theorem all_card:Rows.AllUptoCardSaid:=
 Claim7.holds_tied_plain_at .later [] _ _ _ _ CI (fun _ h=>by cases h) (by kernel_rfl) (fun _ h=>by cases h) allUpto_row_tie rfl ⟨rfl,rfl⟩ (by kernel_rfl) rfl A4 (by kernel_rfl)
#print axioms all_card
end
end Go.Proofs.YtklenjmfalljgabGreatDoor
