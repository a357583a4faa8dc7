/- The second form's card of All: where what is read is of bulk at most the bound, every call, one behind the other, and again, is as the reference says, whatever the owner does with what came out and with what was lent. -/
import Derived.Test.YtklenjmfalljgabGreatDoorM11
import Derived.Test.YtklenjmfalljgabGreatDoorM14
import Derived.Test.YtklenjmfalljgabGreatDoorM25
import Derived.Test.YtklenjmfalljgabGreatDoorM29
import Derived.Test.YtklenjmfalljgabGreatDoorM30
import Derived.Test.YtklenjmfalljgabGreatDoorCards
import Derived.Test.YtklenjmfalljgabGreatDoorTie
import Derived.ChangeMaps5
import Derived.Lib.LaidTab
namespace Go.Proofs.YtklenjmfalljgabGreatDoor
set_option maxRecDepth 100000
set_option maxHeartbeats 8000000
section
open Go.RowKit
attribute [local go_sem] Go.World.cell?_alloc_some
theorem vJ(W:World)(B:Nat)(w:World)(b:Nat)(who:Nat->Role)(n:Int)(f:Nat->Value)(K:Nat->List (Value × Int))(s:ByteArray)
  (h:Hz B w b who n f K) (hW:W.grownBy w none) (bb:W.heap.size<=B) (hS:ShpAt W) (hs:s.size<=9223372036854775000) (bI:0<=n) (hn1:n<=8000000000000) (hK:∀ c,c<5->(K c).length<=4900000000000):
  Calls Tryz.prog 12 #[pt b,.string s] w (HzD W B b n K):=by
 have v:=ij h;have HW:=ij hW;have HS:=ij hS;have Y:=ij hK;have af:pt b= .pointer (some ⟨b,0,none⟩):=rfl;have m:=ij (qL s);have aM:=ij (fun(u:World) (hu:W.grownBy u none)=>xL s u (HS.out.pres (ip hu)) (by omega));have aV:=ij (fun(u:World)=>sS s u hs);clear h hW hS hK;rw [af];go_enter Tryz.func12,Tryz.ntmps12
 go_wp2_with fail
 refine(aM.out _ HW.out).mono ?_;clear aM;intro e d hD;obtain⟨bd,tv,sv,he,S,R⟩:=hD.form;clear hD;subst he;have av:Hid (∀ u e u',RDec u s e u'->u.grownBy u' none/\∃ tv sv,e= .returned (.tuple #[.agg #[tv,sv,.int .i64 (decOut s).1.ver.1,.int .i64 (decOut s).1.ver.2.1,.int .i64 (decOut s).1.ver.2.2],.int .i64 (decOut s).2])/\ProgAt u' (.agg #[tv]) (decOut s).1.prog/\IntsAt u'.heap.size u' sv (decOut s).1.sch):=fun u e u' h=>h.form
 generalize decOut s=D at*;obtain⟨⟨p,a,k0,k1,k2⟩,ce⟩:=D;simp only at S R av m;obtain⟨A,t2,C,rfl⟩:=iw S.choose_spec.1;obtain⟨j,s2,l,rfl⟩:=iw R;have bM:=iB S.choose_spec.1;have bL:=iB R;subst bM bL;have aX:=ij S;have aT:=ij R;have aP:=ij bd;clear S R bd;go_upto_region 2 with fail
 obtain⟨t,ah⟩:∃ t,t=d.alloc (.cells #[.slice A p.length C,.slice j a.length l,.int .i64 k0,.int .i64 k1,.int .i64 k2] 56):=⟨_,rfl⟩;have aK:Hid (t.heap[d.heap.size]?=some (.cells #[.slice A p.length C,.slice j a.length l,.int .i64 k0,.int .i64 k1,.int .i64 k2] 56 (0,0))):=by unfold Hid;rw [ah];exact heap_alloc_new d _
 have bo:Hid (d.grownBy t none):=by unfold Hid;rw [ah];exact iq (ir _ _)
 rw [<-ah];clear ah;have au:Hid (w.heap.size<=d.heap.size/\d.heap.size<t.heap.size):=⟨aP.out.size,(Array.getElem?_eq_some_iff.1 aK.out).1⟩;generalize bh:d.heap.size=n5 at*;have aN:=ij bh;clear bh;go_wp2_with fail
 refine(aV.out t).mono ?_;clear aV;intro e U hR;obtain⟨be,rv,yv,he,aE,aD⟩:=av.out _ _ _ hR;clear hR av;subst he;obtain⟨ra,rc,bk⟩:=aE.form;simp only [Value.agg.injEq,Array.mk.injEq,List.cons.injEq,and_true]at bk;subst bk;obtain⟨ya,yc,rfl⟩:=aD.form;have bq:=ij be;have bw:=ij aE;have bu:=ij aD;clear be aE aD;go_upto_region 3 with fail
 obtain⟨i,ai⟩:∃ i,i=U.alloc (.cells #[.slice ra p.length rc,.slice ya a.length yc,.int .i64 k0,.int .i64 k1,.int .i64 k2] 56):=⟨_,rfl⟩;have aL:Hid (i.heap[U.heap.size]?=some (.cells #[.slice ra p.length rc,.slice ya a.length yc,.int .i64 k0,.int .i64 k1,.int .i64 k2] 56 (0,0))):=by unfold Hid;rw [ai];exact heap_alloc_new U _
 have V:Hid (U.grownBy i none):=by unfold Hid;rw [ai];exact iq (ir _ _)
 rw [<-ai];clear ai;generalize bi:U.heap.size=n7 at*;have bm:=ij bi;clear bi;have ao:Hid (t.grownBy i none):=il bq.out V.out;have an:Hid (d.grownBy i none):=il bo.out ao.out;have Z:Hid (∀ u:World,i.grownBy u none->(u.cell? ⟨n5,0,none⟩=some (.slice A p.length C)/\u.cell? ⟨n5,1,none⟩=some (.slice j a.length l)/\u.cell? ⟨n5,2,none⟩=some (.int .i64 k0)/\u.cell? ⟨n5,3,none⟩=some (.int .i64 k1)/\u.cell? ⟨n5,4,none⟩=some (.int .i64 k2))/\(u.cell? ⟨n7,0,none⟩=some (.slice ra p.length rc)/\u.cell? ⟨n7,1,none⟩=some (.slice ya a.length yc)/\u.cell? ⟨n7,2,none⟩=some (.int .i64 k0)/\u.cell? ⟨n7,3,none⟩=some (.int .i64 k1)/\u.cell? ⟨n7,4,none⟩=some (.int .i64 k2))):=fun u hu=>
  ⟨mm (by rw [(il ao.out hu).block n5 au.out.2 (by simp)];exact aK.out),mm (by rw [hu.block n7 (Array.getElem?_eq_some_iff.1 aL.out).1 (by simp)];exact aL.out)⟩
 have bv:Hid (ProgAt d (.agg #[.slice A p.length C]) p):=aX.out.progAt;have aW:=ij (pK p _ _ i (bv.out.pres (ip an.out)) (bw.out.pres (ip V.out)) (by have:=m.out.1;omega) (fun c hc=>by have:=m.out.2.1 c hc;omega));obtain⟨⟨F,o,G,H,I⟩,J,L,M,N,O⟩:=Z.out i (ir _ _);clear o G H I L M N O;go_wp2_with fail
 refine aW.out.mono ?_;clear aW F J;rintro e w5 ⟨rfl,z⟩;have br:=ij z;have bp:Hid (d.grownBy w5 none):=il an.out z;have aw:=ij (pi a a (.slice j a.length l) (.slice ya a.length yc) w5 (iV (iC aT.out bp.out (fun _ e=>by cases e))) ((bu.out.pres (ip (il V.out z))).mono (by have:=bm.out;have:=(il V.out z).size;omega)) (by have:=m.out.2.2;omega));rw [show (a==a)=true by simp]at aw;obtain⟨⟨F,o,G,H,I⟩,J,L,M,N,O⟩:=Z.out w5 z;clear z F G H I J M N O;go_wp2_with fail
 refine aw.out.mono ?_;clear aw o L;rintro e w6 ⟨rfl,bf⟩;have X:Hid (i.grownBy w6 none):=il br.out (iH bf);have E:Hid (d.grownBy w6 none):=il an.out X.out;have aO:Hid (w.grownBy w6 none):=il aP.out E.out;clear bf;obtain⟨⟨F,o,G,H,I⟩,J,L,M,N,O⟩:=Z.out w6 X.out;clear o J L;go_upto_region 6 with (go_at_call 23;refine(yI _ _).mono ?_;rintro e w9 ⟨rfl,bN⟩;have bO:=bN.symm;subst bO)
 clear G H I M N O;have hlow:B<=w.heap.size:=by have:=v.out.1.1.dom b (by rw [v.out.1.1.wb];simp);omega
 obtain⟨T,hTl,Q⟩:=Be aX.out (fun c hc=>by have:=m.out.2.1 c hc;omega);have hT4:T.length<=4:=by have:=m.out.1;omega
 have ae:∀ q,w.heap.size<=q->who q= .other:=fun q hq=>by
  by_cases ho:who q= .other
  ·exact ho
  ·exact absurd (v.out.1.1.dom q ho).2 (by omega)
 have aU:=ij ae;have y:=ij Q;have aq:=ij (py B w6 b who n f K (.slice A p.length C) T (v.out.1.grown aO.out) ((Q.grown E.out).low (by omega)) (fun q e=>ae q (by have:=iA Q.row q e;omega)) (fun x hx q e=>ae q (by have:=iA (Q.el x hx).1 q e;omega)) bI (by omega) (by have:=Y.out 3 (by omega);omega) (by have:=Y.out 4 (by omega);omega) (by omega));rw [af]at aq;clear Q ae;go_wp2_with fail
 refine aq.out.mono ?_;clear aq F;rintro e w7 ⟨⟨v7,rfl⟩,aI,f7,K7,az,ac,bc,bG,bH,ad⟩;have bA:Hid (W.grownBy w6 none):=il HW.out aO.out;have aC:∀ q,((Value.slice A p.length C).ownBlock=some q\/∃ x∈T,x.1.ownBlock=some q)->w.heap.size<=q/\q<n5:=fun q e=>by
  rcases e with e | ⟨x,hx,e⟩
  ·have h1:=iA y.out.row q e;have h2:=iP y.out.row q e;have:=aN.out;omega
  ·have h1:=iA (y.out.el x hx).1 q e;have h2:=iP (y.out.el x hx).1 q e;have:=aN.out;omega
 have bB:Hid (W.grownBy w7 none):=ac.base bA.out bb (fun g e=>(v.out.1.1.dom g e).1) (fun q e=>by have:=(aC q e).1;have:=HW.out.size;omega);have bJ:n5<w6.heap.size:=by have:=au.out.2;have:=(il ao.out X.out).size;omega
 have o:w7.cell? ⟨n5,1,none⟩=some (.slice j a.length l):=by
  rw [World.cell?_of_block (ac.oth n5 bJ (aU.out n5 au.out.1) (fun e=>by have:=(aC n5 e).2;omega)).1];exact(Z.out w6 X.out).1.2.1
 have r:w6.ownsRow (w.heap.size+6) 3 1 (.slice j a.length l) a.length (ints a):=iC aT.out E.out (fun _ e=>by cases e);have ag:∀ q,(Value.slice j a.length l).ownBlock=some q->w7.heap[q]?=w6.heap[q]?/\aI q= .other:=fun q e=>by
  refine ac.oth q (iP r q e) (aU.out q (by have:=iA r q e;omega)) (fun h=>?_);rcases h with h | ⟨x,hx,h⟩
  ·exact mr r (y.out.grown E.out).row (by decide) q e h
  ·exact mr r ((y.out.grown E.out).el x hx).1 (by decide) q e h
 have bz:=ij (fun q e=>(And.intro (iA r q e) (ag q e).2:w.heap.size+6<=q/\aI q= .other));have ar:=ij (lj B w7 b aI (n+T.length+1) f7 K7 (.slice j a.length l) a.length _ az (iK (iI r (fun q e=>(ag q e).1)) (by omega)) (fun q e=>(ag q e).2) (by omega) (by omega) (by rw [ad 0 (by omega) (by omega)];have:=Y.out 0 (by omega);omega) (by have:=m.out.2.2;omega));rw [af]at ar;have bt:=ij az;have aS:Hid (∀ c,c<5->(K7 c).length<=(K c).length+16/\(c=0->K7 c=K c)):=fun c hc=>by
  refine⟨?_,fun e=>ad c (by omega) (by omega)⟩;by_cases e3:c=3
  ·subst e3;omega
  ·by_cases e4:c=4
   ·subst e4;omega
   ·rw [ad c e3 e4];omega
 have bn:=ij bc;clear az ac bc bG bH ad ag r aC;go_wp2_with fail
 refine ar.out.mono ?_;clear ar o;rintro e w8 ⟨⟨v8,rfl⟩,aJ,f8,K8,aA,P⟩;have bC:Hid (W.grownBy w8 none):=P.fr.base bB.out bb (fun g e=>(bt.out.1.dom g e).1) (fun q e=>by have:=(bz.out q e).1;have:=HW.out.size;omega);have aY:Hid (Hz B w8 b aJ (n+T.length+1+1) f8 K8):=⟨aA,fun k hk=>by rw [P.lent k hk,bn.out k hk];exact v.out.2 k hk⟩;have aR:Hid (∀ c,c<5->(K8 c).length<=(K c).length+16):=fun c hc=>by
  by_cases e:c=0
  ·subst e;have:=P.len;rw [(aS.out 0 (by omega)).2 rfl]at this;omega
  ·rw [P.oth c e];exact(aS.out c hc).1
 have ap:=ij (mK B w8 b aJ (n+T.length+1+1) f8 K8 aA (fun c hc=>by have:=aR.out c hc;have:=Y.out c hc;omega));rw [af]at ap;clear aA P;go_wp2_with fail
 refine ap.out.mono ?_;clear ap;rintro e w9 ⟨rfl,bg⟩;have aQ:Hid (w8.grownBy w9 none):=iH bg;clear bg;go_wp2_with fail
 go_ret;exact⟨by simp,_,aJ,f8,K8,by omega,by omega,⟨aY.out.1.grown aQ.out,aY.out.2⟩,il bC.out aQ.out,aR.out⟩
theorem yH(n:Int)(w:World):Calls Tryz.prog 23 #[.int .i64 n] w fun e w'=>e= .returned (.int .i64 n)/\w'=w:=by
 go_enter Tryz.func23,Tryz.ntmps23
 go_wp2_with fail
 go_ret;exact⟨rfl,rfl⟩
def prnOut(l:List Int):ByteArray × Int:=if validS l=true then (⟨(printS l).toArray⟩,0) else (⟨#[]⟩,2)
theorem sK{l:List Int}{e:Ending}(h:(validS l=true/\e= .returned (.tuple #[.string ⟨(printS l).toArray⟩,.int .i64 0]))\/(validS l=false/\e= .returned (.tuple #[.string ⟨#[]⟩,.int .i64 2]))):e= .returned (.tuple #[.string (prnOut l).1,.int .i64 (prnOut l).2]):=by
 unfold prnOut;rcases h with ⟨h,rfl⟩ | ⟨h,rfl⟩
 ·rw [if_pos h]
 ·rw [if_neg (by rw [h];simp)]
theorem wF(W:World)(B:Nat)(w:World)(b:Nat)(who:Nat->Role)(n:Int)(f:Nat->Value)(K:Nat->List (Value × Int))(M:Value)(l:List Int)
  (h:Hz B w b who n f K) (i:W.grownBy w none) (u:W.heap.size<=B) (H:Tab W) (a:IntsAt W.heap.size W M l) (hln:l.length<=1048576):
  Calls Tryz.prog 14 #[pt b,M] w (HzE W B b n K w who):=by
 have R:=ij h;have U:=ij i;have T:=ij H;have S:=ij a;obtain⟨s,t,rfl⟩:=a.form;have J:pt b= .pointer (some ⟨b,0,none⟩):=rfl;have q:=ij (jP B w b who n f K [] [] [] 0 (.slice s l.length t) l h.lx ((a.pres (ip i)).mono i.size) (kg h.1 u a) (by omega) (by simp));clear h i H a;rw [J]at q ⊢;go_enter Tryz.func14,Tryz.ntmps14
 go_wp2_with fail
 refine q.out.mono ?_;clear q;rintro e d ⟨F,m,f1,rfl,k,v⟩;simp only [List.nil_append]at k;have C:Hid (W.grownBy d none):=v.base U.out u (fun g e=>(R.out.1.1.dom g e).1) (fun _ e=>e.elim);have O:Hid (Fr w d who m (fun g=>w.heap.size<=g)):=(Fr.refl _ _ _).step0 v;have G:IntsAt d.heap.size d (.slice (some ⟨F,0,none⟩) l.length (l.length+2)) l:=jQ (k.le.li (F,l,.slice s l.length t) (by simp)).1;have z:=ij (AI l _ d (T.out.grown C.out) G);have D:=ij k;clear k v G;go_wp2_with fail
 refine z.out.mono ?_;clear z;rintro e N ⟨j,c⟩;obtain rfl:=sK c;clear c;have Q:=ij j;have V:Hid (W.grownBy N none):=il C.out j;have o:=ij (m9 B N b m n f1 K _ _ _ (D.out.grown j) (by simp) (by simp) (by simp));rw [J]at o;clear j;go_wp2_with fail
 refine o.out.mono ?_;clear o;rintro e y ⟨rfl,X,L,x⟩;have r:Hid (W.grownBy y none):=x.base V.out u (fun g e=>(D.out.hs.1.dom g e).1) (fun _ e=>e.elim);have P:Hid (Fr w y who m (fun g=>w.heap.size<=g)):=(O.out.stepG Q.out).step0 x;have E:=ij L;have A:=ij (uq l (.slice s l.length t) y ((S.out.pres (ip r.out)).mono r.out.size));clear L x;go_wp2_with fail
 refine A.out.mono ?_;clear A;rintro e w4 ⟨I,c⟩;obtain rfl:=sK c;clear c;generalize prnOut l=PO at*;obtain⟨ps,pe⟩:=PO;have p:=ij I;clear I;go_wp2_with (go_at_call 23;refine(yH _ _).mono ?_;rintro e w9 ⟨rfl,Y⟩;have Z:=Y.symm;subst Z)
 go_ret;exact⟨by simp,m,X,⟨E.out.1.grown p.out,E.out.2⟩,il r.out p.out,P.out.stepG p.out⟩
theorem yK(l:List Nat):(parseP l).out.length<=500:=by
 rw [mO];unfold parseR;split
 ·simp
 ·cases wholeR (partsR l) (-1) []with
  | none=>simp
  | some x=>
   simp only;split
   ·simp
   ·show x.1.length<=500
    omega
theorem yL(W:World)(B:Nat)(w:World)(b:Nat)(who:Nat->Role)(n:Int)(f:Nat->Value)(K:Nat->List (Value × Int))(s:ByteArray)
  (h:Hz B w b who n f K) (V:W.grownBy w none) (ah:W.heap.size<=B) (hs:s.size<=1048576) (ai:0<=n) (hn1:n<=9000000000000) (T:∀ c,c<5->(K c).length<=4900000000000):
  Calls Tryz.prog 13 #[pt b,.string s] w (HzG W B b (n+1) K):=by
 have a:=ij h;have R:=ij V;have N:=ij T;have G:pt b= .pointer (some ⟨b,0,none⟩):=rfl;have Q:=ij (yK (byt s));clear h V T;rw [G];go_enter Tryz.func13,Tryz.ntmps13
 go_wp2_with fail
 refine(AF s w (by omega)).mono ?_;rintro e w1 ⟨x,y,z,rfl,aa,X⟩;have ac:=ij X;have ae:=ij aa;clear X aa;have t:=ij (uo s w1 hs);rw [<-mO]at t;generalize hp:parseP (byt s)=p at*;obtain⟨out,at_,ok⟩:=p;simp only at*;clear hp;go_wp2_with (go_at_call 46;refine t.out.mono ?_)
 clear t;rintro e H ⟨x',y',z',rfl,F,D⟩;have ad:Hid (w.grownBy H none):=il ac.out D;have j:H.ownsRow (w.heap.size+1) 3 1 (.slice x y z) out.length (ints out):=iC ae.out D (fun _ e=>by cases e);have an:=iB j;have ao:=iB F;subst an;subst ao;have u:=ij (pi out out _ _ H (iV j) (iV F) (by have:=Q.out;omega));rw [show (out==out)=true by simp]at u;have P:=ij j;simp only [parV];generalize parE ok=pe at*;clear j F D;go_wp2_with (go_at_call 30;refine u.out.mono ?_)
 clear u;rintro e I ⟨rfl,E⟩;have L:Hid (w.grownBy I none):=iR ad.out E;have C:∀ q,(Value.slice x out.length z).ownBlock=some q->w.heap.size+1<=q/\who q= .other:=fun q e=>by
  have h1:=iA P.out q e;refine⟨h1,?_⟩;by_cases Z:who q= .other
  ·exact Z
  ·exact absurd (a.out.1.1.dom q Z).2 (by omega)
 have ab:=ij C;have hlow:B<=w.heap.size:=by have:=(a.out.1.1.dom b (by rw [a.out.1.1.wb];simp));omega
 have U:I.ownsRow B 3 1 (.slice x out.length z) out.length (ints out):=iK (iC P.out (iH (r:=none) E) (fun _ e=>by cases e)) (by omega);have o:=ij (lj B I b who n f K (.slice x out.length z) out.length _ (a.out.1.grown L.out) U (fun q e=>(C q e).2) ai (by omega) (by have:=N.out 0 (by omega);omega) (by have:=Q.out;omega));rw [G]at o;clear U E C;go_wp2_with (go_at_call 31;refine o.out.mono ?_)
 clear o;rintro e l ⟨⟨rv,rfl⟩,J,v,i,A,d⟩;have af:Hid (W.grownBy l none):=d.fr.base (il R.out L.out) ah (fun g e=>(a.out.1.1.dom g e).1) (fun q e=>by have:=(ab.out q e).1;have:=R.out.size;omega);have S:Hid (Hz B l b J (n+1) v i):=⟨A,fun k hk=>by rw [d.lent k hk];exact a.out.2 k hk⟩;have O:Hid (∀ c,c<5->(i c).length<=(K c).length+4):=fun c hc=>by
  by_cases e:c=0
  ·subst e;have:=d.len;omega
  ·rw [d.oth c e];omega
 have m:=ij (mK B l b J (n+1) v i A (fun c hc=>by have:=O.out c hc;have:=N.out c hc;omega));clear A d;rw [G]at m;go_wp2_with (go_at_call 27;refine m.out.mono ?_)
 clear m;rintro e w5 ⟨rfl,Y⟩;have M:Hid (l.grownBy w5 none):=iH Y;clear Y;go_wp2_with (go_at_call 23;refine(yH _ _).mono ?_;rintro e w9 ⟨rfl,al⟩;have am:=al.symm;subst am)
 go_ret;exact⟨by simp,J,v,i,⟨S.out.1.grown M.out,S.out.2⟩,il af.out M.out,O.out⟩
end
section
open Go.RowKit
def HX(W:World)(B b q:Nat)(w:World)(X:Nat->Prop):Prop:=∃ who n f K,Hz B w b who n f K/\W.grownBy w none/\0<=n/\n<=(q:Int)/\(∀ c,c<5->(K c).length<=q)/\∀ g,X g->g<w.heap.size/\who g= .other
def Tru(W:World)(B b q:Nat)(w:World)(X:Nat->Prop)(e:Ending)(w':World):Prop:=e= .returned (.bool true)/\HX W B b q w' X/\∀ g,X g->w'.heap[g]?=w.heap[g]?
theorem HX.grown{W w w':World}{B b q:Nat}{X:Nat->Prop}(h:HX W B b q w X)(a:w.grownBy w' none):HX W B b q w' X:=by
 obtain⟨who,n,f,K,c,e,i,j,k,d⟩:=h;exact⟨who,n,f,K,⟨c.1.grown a,c.2⟩,il e a,i,j,k,fun g hx=>⟨Nat.lt_of_lt_of_le (d g hx).1 a.size,(d g hx).2⟩⟩
theorem HX.mono{W w:World}{B b q a:Nat}{X:Nat->Prop}(h:HX W B b q w X)(l:q<=a):HX W B b a w X:=by
 obtain⟨who,n,f,K,d,e,i,h4,j,k⟩:=h;exact⟨who,n,f,K,d,e,i,by omega,fun c hc=>Nat.le_trans (j c hc) l,k⟩
theorem HX.less{W w:World}{B b q:Nat}{X Y:Nat->Prop}(h:HX W B b q w X)(k:∀ g,Y g->X g):HX W B b q w Y:=by
 obtain⟨who,n,f,K,a,c,d,e,i,j⟩:=h;exact⟨who,n,f,K,a,c,d,e,i,fun g hg=>j g (k g hg)⟩
theorem HX.made{W w:World}{B b q:Nat}{X:Nat->Prop}(h:HX W B b q w X)(o:Obj):HX W B b q (w.alloc o) (fun g=>X g\/g=w.heap.size):=by
 obtain⟨who,n,f,K,a,i,j,k,l,d⟩:=h;have c:w.grownBy (w.alloc o) none:=iq (ir _ _);refine⟨who,n,f,K,⟨a.1.grown c,a.2⟩,il i c,j,k,l,fun g hx=>?_⟩;rcases hx with hx | rfl
 ·exact⟨Nat.lt_of_lt_of_le (d g hx).1 c.size,(d g hx).2⟩
 ·refine⟨by simp,?_⟩;by_cases e:who w.heap.size= .other
  ·exact e
  ·exact absurd (a.1.1.dom _ e).2 (by omega)
theorem HX.base{W w:World}{B b q:Nat}{X:Nat->Prop}(h:HX W B b q w X):W.grownBy w none:=by
 obtain⟨_,_,_,_,_,a,_⟩:=h;exact a
theorem HX.start{W w:World}(h:w.heap[W.heap.size]?=some (.cells (hcl f00) 45 (0,0)))(hg:W.grownBy w none):HX W W.heap.size W.heap.size 0 w (fun _=>False):=
 ⟨_,_,_,_,Hz.start h,hg,Int.le_refl _,Int.le_refl _,fun _c _=>Nat.le_refl _,fun _ e=>e.elim⟩
section
variable {W w : World} {B b q : Nat} {X : Nat -> Prop} {pv sv tv : Value} {p : List (List Ins)} {s t : List Int}
theorem uu(h:HX W B b q w X)(hq:q<=4800000000000)(y:W.heap.size<=B)(x:ShpAt W)(v:ProgAt W pv p)(u:IntsAt W.heap.size W sv s)(hpl:p.length<=1048576)(A:∀ c∈p,c.length<=1048576)(hsl:s.length<=1048576):
  Calls Tryz.prog 6 #[pt b,pv,sv] w (Tru W B b (q+4) w X):=by
 obtain⟨who,n,f,K,o,r,t,h4,i,a⟩:=h;refine(ut W B w b who n f K pv sv p s o r y x v u (by omega) (fun c hc=>by have:=A c hc;omega) (by omega) t (by omega) (fun c hc=>by have:=i c hc;omega)).mono ?_;rintro e w' ⟨z,C,l,k,g1,g2,m,d⟩;have j:=fun g hg=>d.oth g (a g hg).1 (a g hg).2 (by have:=(a g hg).1;omega)
 exact⟨z,⟨C,_,l,k,g1,g2,by omega,by omega,fun c hc=>by have:=m c hc;have:=i c hc;omega,fun g hg=>⟨Nat.lt_of_lt_of_le (a g hg).1 d.size,(j g hg).2⟩⟩,fun g hg=>(j g hg).1⟩
theorem x6(h:HX W B b q w X)(hq:q<=4800000000000)(y:W.heap.size<=B)(x:ShpAt W)(v:ProgAt W pv p)(u:IntsAt W.heap.size W sv s)(hpl:p.length<=1048576)(A:∀ c∈p,c.length<=1048576)(hsl:s.length<=1048576):
  Calls Tryz.prog 7 #[pt b,pv,sv] w (Tru W B b (q+4) w X):=by
 obtain⟨who,n,f,K,o,r,t,h4,i,a⟩:=h;refine(xZ W B w b who n f K pv sv p s o r y x v u (by omega) (fun c hc=>by have:=A c hc;omega) (by omega) t (by omega) (fun c hc=>by have:=i c hc;omega)).mono ?_;rintro e w' ⟨z,C,l,k,g1,g2,m,d⟩;have j:=fun g hg=>d.oth g (a g hg).1 (a g hg).2 (by have:=(a g hg).1;omega)
 exact⟨z,⟨C,_,l,k,g1,g2,by omega,by omega,fun c hc=>by have:=m c hc;have:=i c hc;omega,fun g hg=>⟨Nat.lt_of_lt_of_le (a g hg).1 d.size,(j g hg).2⟩⟩,fun g hg=>(j g hg).1⟩
theorem tj{fuel:Int}(h:HX W B b q w X)(hq:q<=4800000000000)(y:W.heap.size<=B)(x:ShpAt W)(v:ProgAt W pv p)(u:IntsAt W.heap.size W sv s)(C:nilOk sv)(A:fuel<=9223372036854775807)(hpl:p.length<=1048576)(D:∀ c∈p,c.length<=1048576)(hsl:s.length<=1048576):
  Calls Tryz.prog 8 #[pt b,pv,sv,.int .i64 fuel] w (Tru W B b (q+4) w X):=by
 obtain⟨who,n,f,K,o,r,t,h4,i,a⟩:=h;refine(ti W B w b who n f K pv sv p s fuel o r y x v u C A (by omega) (fun c hc=>by have:=D c hc;omega) (by omega) t (by omega) (fun c hc=>by have:=i c hc;omega)).mono ?_;rintro e w' ⟨z,E,l,k,g1,g2,m,d⟩;have j:=fun g hg=>d.oth g (a g hg).1 (a g hg).2 (by have:=(a g hg).1;omega)
 exact⟨z,⟨E,_,l,k,g1,g2,by omega,by omega,fun c hc=>by have:=m c hc;have:=i c hc;omega,fun g hg=>⟨Nat.lt_of_lt_of_le (a g hg).1 d.size,(j g hg).2⟩⟩,fun g hg=>(j g hg).1⟩
theorem tE(h:HX W B b q w X)(l:W.heap.size<=B)(z:ShpAt W)(y:ProgAt W pv p)(x:IntsAt W.heap.size W sv s)(hpl:p.length<=1048576)(C:∀ c∈p,c.length<=1048576)(hsl:s.length<=1048576)(k:IntsAt W.heap.size W tv t)(htl:t.length<=1048576):
  Calls Tryz.prog 9 #[pt b,pv,sv,tv] w (Tru W B b q w X):=by
 obtain⟨who,n,f,K,j,d,r,u,v,a⟩:=h;refine(tD W B w b who n f K pv sv tv p s t j d l z y x ((k.pres (ip d)).mono d.size) (kg j.1 l k) (by omega) (fun c hc=>by have:=C c hc;omega) (by omega) (by omega)).mono ?_;rintro e w' ⟨A,D,o,g1,g2,i⟩;have m:=fun g hg=>i.oth g (a g hg).1 (a g hg).2 (by have:=(a g hg).1;omega)
 exact⟨A,⟨D,_,o,K,g1,g2,r,u,v,fun g hg=>⟨Nat.lt_of_lt_of_le (a g hg).1 i.size,(m g hg).2⟩⟩,fun g hg=>(m g hg).1⟩
theorem vO{rv:Value}{k0 k1 k2:Int}(h:HX W B b q w X)(y:W.heap.size<=B)(x:ShpAt W)(v:ProgAt W (.agg #[rv]) p)(u:IntsAt W.heap.size W sv s)(hpl:p.length<=1048576)(C:∀ c∈p,c.length<=1048576)(hsl:s.length<=1048576)(A:∀ c∈p,∀ i∈c,nInt i):
  Calls Tryz.prog 11 #[pt b,.agg #[rv,sv,.int .i64 k0,.int .i64 k1,.int .i64 k2]] w (Tru W B b q w X):=by
 obtain⟨who,n,f,K,l,m,o,r,t,a⟩:=h;refine(vN W B w b who n f K rv sv p s k0 k1 k2 l m y x v u (by omega) (fun c hc=>by have:=C c hc;omega) (by omega) A).mono ?_;rintro e w' ⟨z,D,k,g1,g2,d⟩;have j:=fun g hg=>d.oth g (a g hg).1 (a g hg).2 (by have:=(a g hg).1;omega)
 exact⟨z,⟨D,_,k,K,g1,g2,o,r,t,fun g hg=>⟨Nat.lt_of_lt_of_le (a g hg).1 d.size,(j g hg).2⟩⟩,fun g hg=>(j g hg).1⟩
theorem vK{x:ByteArray}(h:HX W B b q w X)(hq:q<=4800000000000)(p:W.heap.size<=B)(o:ShpAt W)(s:x.size<=9223372036854775000):
  Calls Tryz.prog 12 #[pt b,.string x] w (Tru W B b (q+16) w (fun _=>False)):=by
 obtain⟨who,n,f,K,k,l,m,h4,a,_⟩:=h;refine(vJ W B w b who n f K x k l p o s m (by omega) (fun c hc=>by have:=a c hc;omega)).mono ?_;rintro e w' ⟨r,n',t,i,d,g0,g0',g1,g2,j⟩;exact⟨r,⟨t,n',i,d,g1,g2,by omega,by omega,fun c hc=>by have:=j c hc;have:=a c hc;omega,fun _ e=>e.elim⟩,fun _ e=>e.elim⟩
theorem wG(h:HX W B b q w X)(o:W.heap.size<=B)(m:Tab W)(l:IntsAt W.heap.size W sv s)(r:s.length<=1048576):
  Calls Tryz.prog 14 #[pt b,sv] w (Tru W B b q w (fun _=>False)):=by
 obtain⟨who,n,f,K,c,d,i,j,k,_⟩:=h;refine(wF W B w b who n f K sv s c d o m l r).mono ?_;rintro e w' ⟨p,t,a,g1,g2,_⟩;exact⟨p,⟨t,_,a,K,g1,g2,i,j,k,fun _ e=>e.elim⟩,fun _ e=>e.elim⟩
theorem yM{x:ByteArray}(h:HX W B b q w X)(hq:q<=4800000000000)(o:W.heap.size<=B)(r:x.size<=1048576):
  Calls Tryz.prog 13 #[pt b,.string x] w (Tru W B b (q+16) w (fun _=>False)):=by
 obtain⟨who,n,f,K,k,l,m,h4,a,_⟩:=h;refine(yL W B w b who n f K x k l o r m (by omega) (fun c hc=>by have:=a c hc;omega)).mono ?_;rintro e w' ⟨p,s,i,d,g1,g2,j⟩;exact⟨p,⟨s,_,i,d,g1,g2,by omega,by omega,fun c hc=>by have:=j c hc;have:=a c hc;omega,fun _ e=>e.elim⟩,fun _ e=>e.elim⟩
end
theorem tF:checkRunN ctrP [0]=0:=by decide+kernel
theorem vG:(runS ctrP [0]).kind=5/\(runS ctrP [0]).steps.length=1:=by decide+kernel
theorem tG:vProg ctrP=true:=by decide+kernel
theorem wn{w:World}{g:Nat}{ty:TypeId}(h:w.heap[g]?=some (.cells #[.int .i64 0] ty (0,0))):IntsAt w.heap.size w (.slice (some ⟨g,0,none⟩) 1 1) [0]:=by
 refine⟨some ⟨g,0,none⟩,1,rfl,Nat.le_refl _,fun k hk=>⟨g,0,rfl,(Array.getElem?_eq_some_iff.1 h).1,?_⟩⟩;simp only [World.cell?,h];have hk':k<1:=hk;obtain rfl:k=0:=by omega
 rfl
theorem vF{B:Nat}{w:World}{rv:Value}{c:Int}(h:ResV ctrP [0] B w rv c):c=0/\∃ t a x1 x3 v0 v1 v2 v3 y1 q y3,rv= .agg #[.int .i64 5,.int .i64 t,.int .i64 a,.slice x1 1 x3,.int .i64 v0,.int .i64 v1,.int .i64 v2,.int .i64 v3,.slice y1 q y3]:=by
 obtain⟨k,t,a,v0,v1,v2,v3,x1,x3,y1,y3,m,q,rfl,hc,e⟩:=h;rw [tF]at hc;rcases e with ⟨_,h1,_,_,_,_,_,_,h5,_⟩ | ⟨h0,_⟩
 ·obtain⟨b,d⟩:=vG;rw [b]at h1;rw [d]at h5;subst h1 h5;exact⟨hc,_,_,_,_,_,_,_,_,_,_,_,rfl⟩
 ·exact absurd hc h0
theorem AJ{x y:Nat}(h:x+y<=1048576):x*y<=274877906944:=by
 have key:∀ u d:Nat,u+d=524288->u*(524288+d)<=274877906944:=fun u d e=>by
  have h1:(u+d)*(u+d)=274877906944:=by rw [e]
  have h2:u*(524288+d)=u*(u+d)+u*d:=by rw [<-e,Nat.mul_add u (u+d) d]
  have h3:(u+d)*(u+d)=u*(u+d)+d*(u+d):=Nat.add_mul _ _ _;have h4:d*(u+d)=u*d+d*d:=by rw [Nat.mul_add,Nat.mul_comm d u]
  omega
 by_cases hx:x<=524288
 ·exact Nat.le_trans (Nat.mul_le_mul_left x (by omega:y<=524288+(524288 - x))) (key x (524288 - x) (by omega))
 ·rw [Nat.mul_comm];exact Nat.le_trans (Nat.mul_le_mul_left y (by omega:x<=524288+(524288 - y))) (key y (524288 - y) (by omega))
theorem Bi{p s b t:Nat}(h:2*p+s+b+t<=1048576):32*(p*s+b+t)<=4500000000000:=by
 have a:=AJ (x:=2*p) (y:=s) (by omega);rw [Nat.mul_assoc]at a;omega
theorem ProgsAt.pres{w w':World}{v:Value}{P:List (List (List Ins))}(h:ProgsAt w v P)(a:Pres w w'):ProgsAt w' v P:=by
 obtain⟨b,f,e,hc⟩:=h;exact⟨b,f,e,fun i hi=>by obtain⟨g,o,j,rv,c,d⟩:=hc i hi;exact⟨g,o,j,rv,a _ _ c,d.pres a⟩⟩
theorem SchsAt.grown{w w':World}{v:Value}{S:List (List Int)}(h:SchsAt w v S)(a:w.grownBy w' none):SchsAt w' v S:=by
 obtain⟨b,f,e,hc⟩:=h;exact⟨b,f,e,fun i hi=>by obtain⟨g,o,j,rv,c,d,n⟩:=hc i hi;exact⟨g,o,j,rv,ip a _ _ c,(d.pres (ip a)).mono a.size,n⟩⟩
theorem ProgsAt.get{w:World}{b:Option Addr}{k:Nat}{P:List (List (List Ins))}(h:ProgsAt w (.slice b P.length k) P){i:Nat}(m:i<P.length):∃ g o,b=some ⟨g,o,none⟩/\∃ a c,w.cell? ⟨g,o+i,none⟩=some (.slice a P[i].length c)/\ProgAt w (.agg #[.slice a P[i].length c]) P[i]:=by
 obtain⟨ao',cap',e,hc⟩:=h;simp only [Value.slice.injEq,true_and]at e;obtain⟨g,o,l,rv,c,d⟩:=hc i m;obtain⟨a,j,f⟩:=d.form;simp only [Value.agg.injEq,Array.mk.injEq,List.cons.injEq,and_true]at f;subst f;exact⟨g,o,by rw [e.1];exact l,a,j,c,d⟩
theorem SchsAt.get{w:World}{b:Option Addr}{j:Nat}{S:List (List Int)}(h:SchsAt w (.slice b S.length j) S){i:Nat}(m:i<S.length):∃ g o,b=some ⟨g,o,none⟩/\∃ a c,w.cell? ⟨g,o+i,none⟩=some (.slice a S[i].length c)/\IntsAt w.heap.size w (.slice a S[i].length c) S[i]/\nilA (.slice a S[i].length c):=by
 obtain⟨ao',cap',e,hc⟩:=h;simp only [Value.slice.injEq,true_and]at e;obtain⟨g,o,k,rv,c,d,n⟩:=hc i m;obtain⟨a,f,l⟩:=d.form;subst l;exact⟨g,o,by rw [e.1];exact k,a,f,c,d,n⟩
theorem tq{w:World}{a:Option Addr}{b:Nat}{L:List ByteArray}(h:StrsAt w (.slice a L.length b) L){i:Nat}(f:i<L.length):∃ g o,a=some ⟨g,o,none⟩/\w.cell? ⟨g,o+i,none⟩=some (.string L[i]):=by
 obtain⟨ao',cap',e,hc⟩:=h;simp only [Value.slice.injEq,true_and]at e;obtain⟨g,o,d,c⟩:=hc i f;exact⟨g,o,by rw [e.1];exact d,c⟩
end
section
open Go.RowKit
attribute [local go_sem] Go.World.cell?_alloc_some
theorem kV{w:World}{g:Nat}{x0:Value}{t:TypeId}(h:w.heap[g]?=some (.cells #[x0] t (0,0))):w.cell? ⟨g,0,none⟩=some x0:=by simp [World.cell?,h]
theorem zw{w:World}{g:Nat}{x0 x1 x2:Value}{t:TypeId}(h:w.heap[g]?=some (.cells #[x0,x1,x2] t (0,0))):w.cell? ⟨g,0,none⟩=some x0/\w.cell? ⟨g,1,none⟩=some x1/\w.cell? ⟨g,2,none⟩=some x2:=by simp [World.cell?,h]
theorem B3(W:World)(pv sv bv tv:Value)(fuel:Int)(P:List (List (List Ins)))(S:List (List Int))(o r:List ByteArray)(hS:ShpAt W)(hT:Tab W)(hP:ProgsAt W pv P)(aY:SchsAt W sv S)(aW:StrsAt W bv o)(a0:StrsAt W tv r)(cP:fuel<=9223372036854775807)
  (hn:2*P.length+S.length+o.length+r.length<=1048576) (bJ:∀ p∈P,p.length<=1048576/\∀ c∈p,c.length<=1048576/\∀ i∈c,nInt i) (bM:∀ s∈S,s.length<=1048576) (bG:∀ x∈o,x.size<=1048576) (bP:∀ x∈r,x.size<=1048576):
  Calls Tryz.prog 3 #[pv,sv,bv,tv,.int .i64 fuel] W fun e w'=>e= .returned (.bool true)/\W.grownBy w' none:=by
 obtain⟨pao,pcap,cR⟩:∃ ao cap,pv= .slice ao P.length cap:=⟨_,_,hP.choose_spec.choose_spec.1⟩;obtain⟨sao,scap,cT⟩:∃ ao cap,sv= .slice ao S.length cap:=⟨_,_,aY.choose_spec.choose_spec.1⟩;obtain⟨bao,bcap,cM⟩:∃ ao cap,bv= .slice ao o.length cap:=⟨_,_,aW.choose_spec.choose_spec.1⟩;obtain⟨tao,tcap,cV⟩:∃ ao cap,tv= .slice ao r.length cap:=⟨_,_,a0.choose_spec.choose_spec.1⟩;subst cR cT cM cV;have bp:=ij (Bi hn);have HS:=ij hS;have HT:=ij hT;have HP:=ij hP;have HC:=ij aY;have bb:=ij aW;have bm:=ij a0;have cp:=ij bJ;have aP:=ij bM;have cl:=ij bG;have cw:=ij bP;have G:∀ q,pt q= .pointer (some ⟨q,0,none⟩):=fun _=>rfl
 have hl1:(P.length:Int)<=1048576:=by omega
 have hl2:(S.length:Int)<=1048576:=by omega
 have hl3:(o.length:Int)<=1048576:=by omega
 have hl4:(r.length:Int)<=1048576:=by omega
 clear hS hT hP aY aW a0 bJ bM bG bP hn;go_enter Tryz.func3,Tryz.ntmps3
 go_wp2_with fail
 refine(pT _).mono ?_;rintro e w1 ⟨cv,rfl,M,bV⟩;have aL:Hid (W.grownBy w1 none):=bV;have bd:=ij M;obtain⟨bD,bE,a1⟩:=M.form;subst a1;clear bV M;go_wp2_with fail
 obtain⟨R,ar⟩:∃ R,R=w1.alloc (.cells #[.int .i64 0] 3):=⟨_,rfl⟩;rw [<-ar];have al:Hid (w1.grownBy R none):=by unfold Hid;rw [ar];exact iq (ir _ _)
 have bh:Hid (IntsAt R.heap.size R (.slice (some ⟨w1.heap.size,0,none⟩) 1 1) [0]):=by
  unfold Hid;rw [ar];exact wn (heap_alloc_new w1 _)
 clear ar;refine(sV ctrP [0] _ _ R (HS.out.pres (ip (il aL.out al.out))) (bd.out.pres (ip al.out)) bh.out).mono ?_;intro e w3 hR;obtain⟨bW,rv,c,he,hV⟩:=hR.form;clear hR;subst he;obtain⟨cN,t5,a5,x1,x3,v0,v1,v2,v3,y1,yq,y3,cS⟩:=vF hV;clear hV;subst cN cS;have be:Hid (W.grownBy w3 none):=il aL.out (il al.out bW);clear bW bd bh al aL;go_upto_region 2 with fail
 obtain⟨f,au⟩:∃ f,f=w3.alloc (.cells #[.int .i64 5,.int .i64 t5,.int .i64 a5,.slice x1 1 x3,.int .i64 v0,.int .i64 v1,.int .i64 v2,.int .i64 v3,.slice y1 yq y3] 31):=⟨_,rfl⟩;have bT:f.heap[w3.heap.size]?=some (.cells #[.int .i64 5,.int .i64 t5,.int .i64 a5,.slice x1 1 x3,.int .i64 v0,.int .i64 v1,.int .i64 v2,.int .i64 v3,.slice y1 yq y3] 31 (0,0)):=by rw [au];exact heap_alloc_new w3 _
 rw [<-au];have J:Hid (W.grownBy f none):=by unfold Hid;rw [au];exact iq be.out
 clear au be;obtain⟨r0,r1,r2,r3,r4,_,_,_,_,_⟩:=jl bT;clear bT;go_upto_region 5 with fail
 clear r0 r1 r2 r3 r4;obtain⟨w5,aw⟩:∃ w5,w5=f.alloc (.cells (hcl f00) 45):=⟨_,rfl⟩;have b8:f.alloc (.cells #[.slice none 0 0,.slice none 0 0,.slice none 0 0,.slice none 0 0,.slice none 0 0,.int .i64 0,.slice none 0 0,.slice none 0 0,.slice none 0 0,.slice none 0 0,.slice none 0 0,.slice none 0 0,.slice none 0 0,.slice none 0 0,.slice none 0 0,.slice none 0 0] 45)=w5:=by rw [aw];rfl
 rw [b8];have aS:Hid (HX f f.heap.size f.heap.size 0 w5 (fun _=>False)):=HX.start (by rw [aw];exact heap_alloc_new f _) (by rw [aw];exact iq (ir _ _));clear aw b8;have N:=ij (HS.out.pres (ip J.out));have cu:=ij (HT.out.grown J.out);have co:=ij (HP.out.pres (ip J.out));have aK:=ij (HC.out.grown J.out);have cm:=ij (bb.out.pres (ip J.out));have cx:=ij (bm.out.pres (ip J.out));clear HS HT HP HC bb bm;obtain⟨b,hb⟩:∃ b,b=f.heap.size:=⟨_,rfl⟩;rw [<-hb]at aS ⊢;have F:Hid (f.heap.size<=b):=by unfold Hid;omega
 clear hb;obtain⟨y,aZ⟩:∃ t,t=P.length*S.length+o.length+r.length:=⟨_,rfl⟩;rw [<-aZ]at bp;have bn:=ij aZ;clear aZ;go_wp2_with fail
 go_loopw [14,15] (fun okv av w'=>∃ a:Nat,a<=2/\okv= .bool true/\av= .int .i64 a/\Hid (HX f b b (16*(a*y)) w' (fun _=>False))) (fun _ av _=>2 - (intOf av).toNat)
 case atStart=>exact⟨0,by omega,rfl,rfl,by rw [Nat.zero_mul];exact aS⟩
 case round=>
  clear aS;obtain⟨a,ha,rfl,rfl,U⟩:=hrel;obtain⟨wa,b9⟩:∃ wa,wa=wr:=⟨_,rfl⟩;rw [<-b9]at U ⊢;clear b9;by_cases hlt:a<2
  ·have q1:(a:Int)<2:=by omega
   have cn:Hid (16*((a+1)*y)=16*(a*y)+16*y):=by unfold Hid;rw [Nat.add_mul,Nat.one_mul,Nat.mul_add]
   have bq:Hid (16*(a*y)+16*y<=4500000000000):=by
    unfold Hid;have h1:a*y<=1*y:=Nat.mul_le_mul_right y (by omega);have:=bp.out;omega
   generalize 16*(a*y)=q0 at*;go_wp2_with fail
   go_loopw [14,16] (fun okv iv w'=>∃ i:Nat,i<=P.length/\okv= .bool true/\iv= .int .i64 i/\Hid (HX f b b (q0+16*(i*S.length)) w' (fun _=>False))) (fun _ iv _=>P.length - (intOf iv).toNat)
   case atStart=>exact⟨0,Nat.zero_le _,rfl,rfl,by rw [Nat.zero_mul];exact U⟩
   case round=>
    clear U;obtain⟨i,hi,rfl,rfl,V⟩:=hrel;obtain⟨wi,ca⟩:∃ wi,wi=wr:=⟨_,rfl⟩;rw [<-ca]at V ⊢;clear ca;by_cases a3:i<P.length
    ·have q2:(i:Int)<P.length:=by omega
     have q20:(0:Int)<=(i:Int):=by omega
     have bi:Hid (q0+16*((i+1)*S.length)=q0+16*(i*S.length)+16*S.length):=by unfold Hid;rw [Nat.add_mul,Nat.one_mul,Nat.mul_add];omega
     have cy:Hid (q0+16*(i*S.length)+16*S.length<=4500000000000):=by
      unfold Hid;have h1:(i+1)*S.length<=P.length*S.length:=Nat.mul_le_mul_right _ a3;have h2:=bi.out;have h3:=bq.out;have h4:=bn.out;omega
     generalize q0+16*(i*S.length)=qi at*;obtain⟨pg,po,rfl,l,m,b4,b5⟩:=co.out.get a3;have cq:=ij b4;have X:=ij b5;have A:=ij (cp.out _ (List.getElem_mem a3));clear b4 b5;generalize P[i]=p at*;go_wp2_with fail
     go_loopw [14,17] (fun okv kv w'=>∃ k:Nat,k<=S.length/\okv= .bool true/\kv= .int .i64 k/\Hid (HX f b b (qi+16*k) w' (fun _=>False))) (fun _ kv _=>S.length - (intOf kv).toNat)
     case atStart=>exact⟨0,Nat.zero_le _,rfl,rfl,by rw [Nat.mul_zero];exact V⟩
     case round=>
      clear V;obtain⟨k,hk,rfl,rfl,K⟩:=hrel;obtain⟨I,cb⟩:∃ I,I=wr:=⟨_,rfl⟩;rw [<-cb]at K ⊢;clear cb;by_cases b2:k<S.length
      ·have q3:(k:Int)<S.length:=by omega
       have cY:(0:Int)<=(k:Int):=by omega
       have q31:(0:Int)<S.length:=by omega
       have q32:0<S.length:=by omega
       have aR:Hid (qi+16*k+16<=4500000000000):=by unfold Hid;have:=cy.out;omega
       have aN:Hid (qi+16*(k+1)=qi+16*k+16):=by unfold Hid;omega
       generalize qi+16*k=qk at*;obtain⟨sg,so,rfl,D,E,ab,ac,b6⟩:=aK.out.get b2;obtain⟨sg',so',e0,za,zc,a7,ce,_⟩:=aK.out.get (show 0<S.length by omega);simp only [Option.some.injEq,Addr.mk.injEq,and_true]at e0;obtain⟨rfl,rfl⟩:=e0;rw [Nat.add_zero]at a7;have cs:=ij ab;have O:=ij ac;have ct:Hid (nilOk (.slice D S[k].length E)):=fun n c e=>b6 n c e
       have bB:=ij a7;have cA:=ij ce;have B:=ij (aP.out _ (List.getElem_mem b2));have cr:=ij (aP.out _ (List.getElem_mem (show 0<S.length by omega)));clear ab ac b6 a7 ce;generalize S[k]=s at*;generalize S[0]=z at*;have f1:=ip K.out.base _ _ cq.out;have Y:=ip K.out.base _ _ cs.out;go_upto_region 17 with fail
       obtain⟨H,ap⟩:∃ H,H=I.alloc (.cells #[.slice l p.length m] 37):=⟨_,rfl⟩;have aE:Hid (H.heap[I.heap.size]?=some (.cells #[.slice l p.length m] 37 (0,0))):=by unfold Hid;rw [ap];exact heap_alloc_new I _
       have C:Hid (HX f b b qk H (fun g=>False\/g=I.heap.size)):=by unfold Hid;rw [ap];exact K.out.made _
       rw [<-ap];clear ap f1 Y K;generalize I.heap.size=n18 at*;have f1:=kV aE.out;have d:=ij (uu (pv:= .agg #[.slice l p.length m]) (sv:= .slice D s.length E) C.out (by have:=aR.out;omega) F.out N.out X.out O.out A.out.1 (fun c hc=>(A.out.2 c hc).1) B.out);rw [G]at d;clear C;go_wp2_with fail
       refine d.out.mono ?_;clear d f1;rintro e u3 ⟨rfl,ah,bY⟩;have aF:Hid (u3.heap[n18]?=some (.cells #[.slice l p.length m] 37 (0,0))):=(bY n18 (Or.inr rfl)).trans aE.out;have f1:=kV aF.out;have d:=ij (x6 (pv:= .agg #[.slice l p.length m]) (sv:= .slice D s.length E) ah (by have:=aR.out;omega) F.out N.out X.out O.out A.out.1 (fun c hc=>(A.out.2 c hc).1) B.out);rw [G]at d;clear ah bY aE;go_wp2_with fail
       refine d.out.mono ?_;clear d f1;rintro e u4 ⟨rfl,cd,bZ⟩;have aG:Hid (u4.heap[n18]?=some (.cells #[.slice l p.length m] 37 (0,0))):=(bZ n18 (Or.inr rfl)).trans aF.out;have f1:=kV aG.out;have d:=ij (tj (pv:= .agg #[.slice l p.length m]) (sv:= .slice D s.length E) (fuel:=fuel) cd (by have:=aR.out;omega) F.out N.out X.out O.out ct.out cP A.out.1 (fun c hc=>(A.out.2 c hc).1) B.out);rw [G]at d;clear cd bZ aF;go_wp2_with fail
       refine d.out.mono ?_;clear d f1;rintro e u5 ⟨rfl,a4,b0⟩;have aH:Hid (u5.heap[n18]?=some (.cells #[.slice l p.length m] 37 (0,0))):=(b0 n18 (Or.inr rfl)).trans aG.out;have bw:=ij a4;have d:=ij (tE (pv:= .agg #[.slice l p.length m]) (sv:= .slice D s.length E) (tv:= .slice za z.length zc) (a4.grown (iy (ir _ _))) F.out N.out X.out O.out A.out.1 (fun c hc=>(A.out.2 c hc).1) B.out cA.out cr.out);rw [G]at d;clear a4 b0 aG;go_upto_region 20 with fail
       have bN:u5.drew.cell? ⟨n18,0,none⟩=some (.slice l p.length m)/\u5.drew.cell? ⟨sg,so,none⟩=some (.slice za z.length zc):=⟨kV (w:=u5.drew) aH.out,ip (iy bw.out.base) _ _ bB.out⟩;refine iz (fun u=>u.cell? ⟨n18,0,none⟩=some (.slice l p.length m)/\u.cell? ⟨sg,so,none⟩=some (.slice za z.length zc)) 7 (by kernel_rfl) (by kernel_rfl) bN ?_;intro L;refine ie 0 ?v0 rfl (by kernel_rfl) (fun _ _ _ h=>h) (by kernel_rfl) ?y0 L ?_
       case y0=>(rintro u ⟨ad,ae⟩;go_simp;try rfl)
       simp only [Act.put,List.setIfInBounds_toArray];refine ie 1 ?v1 rfl (by kernel_rfl) (fun _ _ _ h=>h) (by kernel_rfl) ?y1 L ?_
       case y1=>(rintro u ⟨ad,ae⟩;go_simp;try rfl)
       simp only [Act.put];refine ie 2 ?v2 rfl (by kernel_rfl) (fun _ _ _ h=>h) (by kernel_rfl) ?y2 L ?_
       case y2=>(rintro u ⟨ad,ae⟩;go_simp;try rfl)
       simp only [Act.put];refine ie 3 ?v3 rfl (by kernel_rfl) (fun _ _ _ h=>h) (by kernel_rfl) ?y3 L ?_
       case y3=>(rintro u ⟨ad,ae⟩;go_simp;try rfl)
       simp only [Act.put];refine ie 4 ?v4 rfl (by kernel_rfl) (fun _ _ _ h=>h) (by kernel_rfl) ?y4 L ?_
       case y4=>(rintro u ⟨ad,ae⟩;go_simp;first | done | rfl | exact rfl)
       simp only [Act.put];refine ie 5 ?v5 rfl (by kernel_rfl) (fun _ _ _ h=>h) (by kernel_rfl) ?y5 L ?_
       case y5=>(rintro u ⟨ad,ae⟩;go_simp;try rfl)
       simp only [Act.put];refine iu (i:=6) rfl (by kernel_rfl) (by kernel_rfl) (by kernel_rfl) ?_;intro K6 bI;have bf:=ij bI;clear bI;go_simp;refine d.out.mono ?_;clear d;rintro e u6 ⟨rfl,a6,b1⟩;have ak:Hid (u6.heap[n18]?=some (.cells #[.slice l p.length m] 37 (0,0))):=(b1 n18 (Or.inr rfl)).trans aH.out;have am:=ij a6;have bH:u6.cell? ⟨n18,0,none⟩=some (.slice l p.length m)/\u6.cell? ⟨sg,so,none⟩=some (.slice za z.length zc):=⟨kV ak.out,ip a6.base _ _ bB.out⟩;refine bf.out _ _ bH ?_;clear bf a6 b1;try simp only [Act.put,List.setIfInBounds_toArray]
       refine iF rfl (by kernel_rfl) (by kernel_rfl) (by kernel_rfl) ?_;go_simp;clear L bH bN bw aH;go_wp2_with fail
       refine(pT _).mono ?_;rintro e u7 ⟨cv,rfl,M,Z⟩;obtain⟨bD,bE,a1⟩:=M.form;subst a1;have bx:=ij (am.out.grown Z);have bk:=ij (ms u7 bD bE ctrP (.slice D s.length E) s tG M ((O.out.pres (ip (il am.out.base Z))).mono (il am.out.base Z).size) B.out);have aI:Hid (u7.heap[n18]?=some (.cells #[.slice l p.length m] 37 (0,0))):=by unfold Hid;rw [Z.block _ (Array.getElem?_eq_some_iff.1 ak.out).1 (by simp)];exact ak.out
       clear M Z am ak;go_wp2_with fail
       refine bk.out.mono ?_;clear bk;rintro e Q ⟨rb,rab,rrb,rst,rfl,an⟩;generalize (runS ctrP s).kind=vk at*;generalize (runS ctrP s).thread=vt at*;generalize (runS ctrP s).at_=va at*;obtain⟨_,cB,cC,cD,_,_,_⟩:=an.vcells;have bz:=ij (bx.out.grown an.frame);have aJ:Hid (Q.heap[n18]?=some (.cells #[.slice l p.length m] 37 (0,0))):=by unfold Hid;rw [an.frame.block _ (Array.getElem?_eq_some_iff.1 aI.out).1 (by simp)];exact aI.out
       clear an bx aI;go_upto_region 22 with fail
       clear cB cC cD;obtain⟨u9,aq⟩:∃ u9,u9=Q.alloc (.cells #[.int .i64 vk,.int .i64 vt,.int .i64 va] 26):=⟨_,rfl⟩;have a2:Q.grownBy u9 none:=by rw [aq];exact iq (ir _ _)
       have bU:u9.heap[Q.heap.size]?=some (.cells #[.int .i64 vk,.int .i64 vt,.int .i64 va] 26 (0,0)):=by rw [aq];exact heap_alloc_new Q _
       rw [<-aq];clear aq;have bA:=ij (bz.out.grown a2);have ba:u9.heap[n18]?=some (.cells #[.slice l p.length m] 37 (0,0)):=by rw [a2.block _ (Array.getElem?_eq_some_iff.1 aJ.out).1 (by simp)];exact aJ.out
       have f1:=kV ba;obtain⟨Y,f3,f4⟩:=zw bU;have d:=ij (vO (rv:= .slice l p.length m) (sv:= .slice D s.length E) (k0:=vk) (k1:=vt) (k2:=va) bA.out F.out N.out X.out O.out A.out.1 (fun c hc=>(A.out.2 c hc).1) B.out (fun c hc=>(A.out.2 c hc).2));rw [G]at d;clear a2 bU ba bA bz aJ;generalize Q.heap.size=n24 at*;go_wp2_with fail
       refine d.out.mono ?_;clear d f1 Y f3 f4;rintro e c8 ⟨rfl,cc,_⟩;have bu:Hid (HX f b b (qk+16) c8 (fun _=>False)):=(cc.mono (by omega)).less (fun _ e=>e.elim);rw [<-aN.out]at bu;clear cc;go_wp2_with fail
       go_roundw
       case rel=>exact⟨k+1,by omega,by simp,by go_num,bu⟩
       case measure=>simp [intOf];omega
      ·have q3:(S.length:Int)<=(k:Int):=by omega
       have ek:k=S.length:=by omega
       subst ek;have aN:Hid (HX f b b (q0+16*((i+1)*S.length)) I (fun _=>False)):=by unfold Hid;rw [bi.out];exact K.out
       clear K;go_wp2_with fail
       go_roundw
       case rel=>exact⟨i+1,by omega,by simp,by go_num,aN⟩
       case measure=>simp [intOf];omega
    ·have q2:(P.length:Int)<=(i:Int):=by omega
     have ei:i=P.length:=by omega
     subst ei;have br:Hid (q0+16*(P.length*S.length)+16*o.length+16*r.length<=4500000000000/\q0+16*(P.length*S.length)+16*o.length+16*r.length=q0+16*y):=by
      unfold Hid;have h3:=bq.out;have h4:=bn.out;omega
     generalize q0+16*(P.length*S.length)=qb at*;go_wp2_with fail
     go_loopw [14,26] (fun okv jv w'=>∃ j:Nat,j<=o.length/\okv= .bool true/\jv= .int .i64 j/\Hid (HX f b b (qb+16*j) w' (fun _=>False))) (fun _ jv _=>o.length - (intOf jv).toNat)
     case atStart=>exact⟨0,Nat.zero_le _,rfl,rfl,by rw [Nat.mul_zero];exact V⟩
     case round=>
      clear V;obtain⟨j,hj,rfl,rfl,v⟩:=hrel;obtain⟨T,af⟩:∃ T,T=wr:=⟨_,rfl⟩;rw [<-af]at v ⊢;clear af;by_cases aa:j<o.length
      ·have q3:(j:Int)<o.length:=by omega
       have cY:(0:Int)<=(j:Int):=by omega
       have aQ:Hid (qb+16*j+16<=4500000000000):=by unfold Hid;have:=br.out.1;omega
       have aM:Hid (qb+16*(j+1)=qb+16*j+16):=by unfold Hid;omega
       generalize qb+16*j=qj at*;obtain⟨bg,bo,rfl,bS⟩:=tq cm.out aa;have hbb:=cl.out _ (List.getElem_mem aa);generalize o[j]=x at*;have f1:=ip v.out.base _ _ bS;have d:=ij (vK (x:=x) v.out (by have:=aQ.out;omega) F.out N.out (by omega));rw [G]at d;clear v bS;go_wp2_with fail
       refine d.out.mono ?_;clear d f1;rintro e H ⟨rfl,ag,_⟩;have C:Hid (HX f b b (qb+16*(j+1)) H (fun _=>False)):=by unfold Hid;rw [aM.out];exact ag
       clear ag;go_wp2_with fail
       go_roundw
       case rel=>exact⟨j+1,by omega,by simp,by go_num,C⟩
       case measure=>simp [intOf];omega
      ·have q3:(o.length:Int)<=(j:Int):=by omega
       have ej:j=o.length:=by omega
       subst ej;have bt:=ij br.out;generalize qb+16*o.length=qt at*;go_wp2_with fail
       go_loopw [14,27] (fun okv jv w'=>∃ j:Nat,j<=r.length/\okv= .bool true/\jv= .int .i64 j/\Hid (HX f b b (qt+16*j) w' (fun _=>False))) (fun _ jv _=>r.length - (intOf jv).toNat)
       case atStart=>exact⟨0,Nat.zero_le _,rfl,rfl,by rw [Nat.mul_zero];exact v⟩
       case round=>
        clear v;obtain⟨j,hj,rfl,rfl,v⟩:=hrel;obtain⟨T,af⟩:∃ T,T=wr:=⟨_,rfl⟩;rw [<-af]at v ⊢;clear af;by_cases aa:j<r.length
        ·have q4:(j:Int)<r.length:=by omega
         have q40:(0:Int)<=(j:Int):=by omega
         have aQ:Hid (qt+16*j+16<=4500000000000):=by unfold Hid;have:=bt.out.1;omega
         have aM:Hid (qt+16*(j+1)=qt+16*j+16):=by unfold Hid;omega
         generalize qt+16*j=qj at*;obtain⟨tg,to_,rfl,b7⟩:=tq cx.out aa;have cU:=cw.out _ (List.getElem_mem aa);generalize r[j]=x at*;have f1:=ip v.out.base _ _ b7;have d:=ij (yM (x:=x) v.out (by have:=aQ.out;omega) F.out cU);rw [G]at d;clear v b7;go_wp2_with fail
         refine d.out.mono ?_;clear d f1;rintro e H ⟨rfl,ag,_⟩;have C:Hid (HX f b b (qt+16*(j+1)) H (fun _=>False)):=by unfold Hid;rw [aM.out];exact ag
         clear ag;by_cases bX:j<S.length
         ·have q5:(j:Int)<S.length:=by omega
          obtain⟨sg,so,rfl,D,E,ab,ac,_⟩:=aK.out.get bX;have B:=aP.out _ (List.getElem_mem bX);generalize S[j]=s at*;have Y:=ip C.out.base _ _ ab;have d:=ij (wG (sv:= .slice D s.length E) C.out F.out cu.out ac B);rw [G]at d;clear C ab ac B;go_wp2_with fail
          refine d.out.mono ?_;clear d Y;rintro e u3 ⟨rfl,ah,_⟩;have cz:=ij ah;clear ah;go_wp2_with fail
          go_roundw
          case rel=>exact⟨j+1,by omega,by simp,by go_num,cz⟩
          case measure=>simp [intOf];omega
         ·have q5:(S.length:Int)<=(j:Int):=by omega
          go_wp2_with fail
          go_roundw
          case rel=>exact⟨j+1,by omega,by simp,by go_num,C⟩
          case measure=>simp [intOf];omega
        ·have q4:(r.length:Int)<=(j:Int):=by omega
         have ej:j=r.length:=by omega
         subst ej;have aT:Hid (HX f b b (16*((a+1)*y)) T (fun _=>False)):=by unfold Hid;rw [cn.out,<-bt.out.2];exact v.out
         clear v;go_wp2_with fail
         go_roundw
         case rel=>exact⟨a+1,by omega,by simp,by go_num,aT⟩
         case measure=>simp [intOf];omega
  ·have q1:(2:Int)<=(a:Int):=by omega
   have aT:=ij (il J.out U.out.base);clear U;go_wp2_with fail
   go_ret;exact⟨rfl,aT.out⟩
end
section
open Go.ChangeShapes Go.WideShapes Go.ChangeAt Go.RowKit Go.Joins
theorem Cc:Tryz.prog.globalNamed "internal/strconv.uint64pow10" =some 2:=by kernel_rfl
theorem Ci:(Tryz.prog.globals[2]?).map (·.type)=some 275:=by kernel_rfl
theorem Ca:Tryz.prog.cellsOf 275=20:=by kernel_rfl
theorem Cb:Tryz.prog.cellsOf 142=1:=by kernel_rfl
theorem qC{W:World}(h:laidMetH Tryz.prog Rows.allUptoRow.laid W):Tab W/\ShpAt W:=by
 have a:laidMet Tryz.prog Rows.allUptoRow.laid W:=h;obtain⟨ps,⟨_,_,_,_,_,_,_,_,_,_,⟨_,_,_,_,_,_,_,_,_,_,⟨g,t,cs,fuel,p,q,e,i,k,b,⟨g0,t0,cs0,f0,p0,q0,f,j,l,d,_⟩,_⟩,_⟩,_⟩,_,_⟩:=a;refine⟨?_,A7 f j l d⟩;obtain rfl:=Option.some.inj (Cc.symm.trans e);obtain rfl:=Option.some.inj (Ci.symm.trans i);have c:DataW.trod (fun _=>()) Tryz.prog W 0 (fun _=>true) false fuel 275 cs.toList=some (Lib.tabData .u64 Lib.pow10Tab,p):=b;have hc:=Lib.cells_of_tab Tryz.underlying275 Tryz.underlying142 Cb Ca c;unfold Tab Lib.TabIs;rw [k,<-hc]
theorem qE(H:Type)(enc:TypeId × Value->H)(W:World)(base:Nat)(args:Array Value)(m z:List (DataW H))(Y:List MemPlace)
  (d:∀ (j:Nat) t v,Tryz.f3.params[j]?=some t->args[j]?=some v->Value.okWide Tryz.prog W .any base t v)
  (G:DataW.Whole enc Tryz.prog Tryz.f3.params.toList Rows.allSpec.vars false W args.toList m z Y) (hk:Rows.uptoSmall H (m++z)=true) (hL:laidMetH Tryz.prog Rows.allUptoRow.laid W):
  Calls Tryz.prog 3 args W fun e W'=>∃ v,e= .returned v/\Rows.allSpec.post enc Tryz.prog Tryz.f3 false true false false W args v W':=by
 have I:=G;obtain⟨p,q,F,hV,rfl,hfz,hnd⟩:=G;have a:DataW.TrodAll enc Tryz.prog W 0 (fun _=>true) true Tryz.f3.params.toList args.toList m p:=F;rw [Tryz.params3]at a d;obtain⟨o,vs0,d0,ds0,J,q0,n,rfl,rfl,A,a⟩:=trodAll_cons a;obtain⟨r,vs1,d1,ds1,K,q1,rfl,rfl,rfl,B,a⟩:=trodAll_cons a;obtain⟨u,vs2,d2,ds2,L,q2,rfl,rfl,rfl,C,a⟩:=trodAll_cons a;obtain⟨w,vs3,d3,ds3,M,q3,rfl,rfl,rfl,D,a⟩:=trodAll_cons a;obtain⟨O,Q,d4,y,N,q4,rfl,rfl,rfl,E,a⟩:=trodAll_cons a;obtain⟨rfl,rfl,rfl⟩:Q=[]/\y=[]/\q4=[]:=by
  cases Q<;>cases y<;>simp [DataW.TrodAll]at a
  exact⟨rfl,rfl,a⟩
 obtain rfl:args=#[o,r,u,w,O]:=by
  obtain⟨l⟩:=args;simp at n;rw [n]
 obtain⟨rfl,rfl⟩:=trodVars_none hV;clear F a n;have ag:=of_decide_eq_true hk;simp only [List.append_nil,Rows.uptoBulkAll]at ag;obtain⟨P,U,a2,k⟩:=wL (d 0 22 o rfl rfl) A;obtain⟨S,V,b2,X⟩:=zh (d 1 23 r rfl rfl) B;obtain⟨R,c1,c2,Z⟩:=tp (d 2 24 u rfl rfl) C;obtain⟨T,aa,d2',ab⟩:=tp (d 3 24 w rfl rfl) D;obtain⟨fuel,rfl,ah⟩:=Ar (d 4 3 O rfl rfl) E;obtain⟨hT,hS⟩:=qC hL;refine(B3 W o r u w fuel P S R T hS hT U V c1 aa ah.2 (by omega) (fun p hp=>⟨by have:=(k p hp).1;omega,fun c hc=>⟨by have:=((k p hp).2 c hc).1;omega,fun i hi=>((k p hp).2 c hc).2 i hi⟩⟩) (fun s hs=>by have:=X s hs;omega) (fun x hx=>by have:=Z x hx;omega) (fun x hx=>by have:=ab x hx;omega)).mono fun e W' ⟨he,hg⟩=>?_
 subst he;have b:=sj hg;have f:∀ x∈J++(K++(L++(M++(N++[])))),x.block<W.heap.size:=fun x hx=>by simpa using I.lt x (by simpa using hx)
 refine⟨_,rfl,_,_,_,[]++[],J++(K++(L++(M++(N++[])))),[],I,trodAll_cons_mk (shut_bool Tryz.underlying4 _) trodAll_mk0,?_,rfl,b.frame _,fun h=>by cases h⟩;rw [Tryz.params3];exact trodAll_cons_mk (Below.trod mM (by kernel_rfl) (of_decide_eq_true (by kernel_rfl)) A b (fun x hx=>f x (by simp [hx])))
  (trodAll_cons_mk (Below.trod mM (by kernel_rfl) (of_decide_eq_true (by kernel_rfl)) B b (fun x hx=>f x (by simp [hx])))
  (trodAll_cons_mk (Below.trod mM (by kernel_rfl) (of_decide_eq_true (by kernel_rfl)) C b (fun x hx=>f x (by simp [hx])))
  (trodAll_cons_mk (Below.trod mM (by kernel_rfl) (of_decide_eq_true (by kernel_rfl)) D b (fun x hx=>f x (by simp [hx])))
  (trodAll_cons_mk (Below.trod mM (by kernel_rfl) (of_decide_eq_true (by kernel_rfl)) E b (fun x hx=>f x (by simp [hx])))
   trodAll_mk0))))
theorem xt(os:Os):laidMetH Tryz.prog Rows.allUptoRow.laid ((World.doorLaid Tryz.prog 400 os).forCall (fun _ _=>0) ⟨#[],#[.slice none 0 0,.slice none 0 0,.slice none 0 0,.slice none 0 0,.int .i64 0],[]⟩).memory:=
 laidMetH_of_parts3 (fuel:=8) (laidMet_of_run' 8 (by kernel_rfl) (by kernel_rfl)) (by kernel_rfl) (by kernel_rfl)
theorem vp(os:Os){H:Type}(enc:TypeId × Value->H):∃ places,DataW.whole enc Tryz.prog ((World.doorLaid Tryz.prog 400 os).forCall (fun _ _=>0) ⟨#[],#[.slice none 0 0,.slice none 0 0,.slice none 0 0,.slice none 0 0,.int .i64 0],[]⟩).memory Tryz.f3.params.toList Rows.allSpec.vars false #[Value.slice none 0 0,.slice none 0 0,.slice none 0 0,.slice none 0 0,.int .i64 0].toList 8=some ([.nil,.nil,.nil,.nil,.lit (.int .i64 0)],[],places):=
 ⟨[],by kernel_rfl⟩
theorem tu(a:Os)(l:a.Started)(H:Type)(enc:TypeId × Value->H)(F:Stop.Interp):
  ReturnsInHanded {} Tryz.checked a 3 .any ((Rows.OpenSpec.upto Rows.allSpec).preRow enc Tryz.prog Tryz.f3 Rows.allUptoRow.domain false Rows.allUptoRow.laid) (((Rows.OpenSpec.upto Rows.allSpec).at F).post enc Tryz.prog Tryz.f3 false true false false):=by
 obtain⟨places,j⟩:=vp a enc;refine returnsInHanded_of_row (C:=Tryz.checked) (s:=Rows.OpenSpec.upto Rows.allSpec) own l (by kernel_rfl) Tryz.func3
  (witness_row_atRef (enc:=enc) (C:=Tryz.checked) false (World.doorLaid Tryz.prog 400 a) #[.slice none 0 0,.slice none 0 0,.slice none 0 0,.slice none 0 0,.int .i64 0] rfl (by kernel_rfl) (by kernel_rfl) (by kernel_rfl)
   (OpenSpec.preRow_of_cond 8 j (by kernel_rfl) (fun k hk=>by cases hk;kernel_rfl) (by kernel_rfl) (xt a))) ?_
 intro W base args c d b i f _ h _ e _ _;exact qE H enc W base args c d b i f (h _ rfl) e
theorem xu:Rows.AllUptoSaid:=
 OpenClaim.holds_of_cond 3 Tryz.f3 rfl rfl rfl rfl rfl rfl rfl ⟨rfl,rfl,rfl,rfl,rfl⟩ rfl rfl rfl rfl rfl (by kernel_rfl) Tryz.func3 (by kernel_rfl)
  (of_decide_eq_true (by kernel_rfl)) (by unfold Func.isWrapper;first | (rw [if_pos (by decide+kernel)];kernel_rfl) | (rw [if_neg (by decide+kernel)];exact⟨rfl,rfl⟩))
  (fun os started H enc _ F=>by rw [OpenClaim.pre_eq_preRow];exact tu os started H enc F)
theorem vo(f:FuncId)(a:Func)(c:Tryz.pinned.checked.prog.funcNamed "rerun/rerunlaw.All" =some f)(d:Tryz.pinned.checked.prog.funcs[f]?=some a):
  Rows.allUptoCard.stood.looks=Tryz.pinned.checked.prog.looks []/\∀ (j:Nat) t,a.params[j]?=some t->Tryz.pinned.checked.prog.wantsStandIn t=false:=by
 obtain rfl:f=3:=Option.some.inj ((show Tryz.prog.funcNamed "rerun/rerunlaw.All" =some 3 by kernel_rfl).symm.trans c) |>.symm
 obtain rfl:a=Tryz.f3:=(Option.some.inj (Tryz.func3.symm.trans d)).symm;refine⟨by kernel_rfl,fun j t ht=>?_⟩;rw [Tryz.params3]at ht;have e:t∈[22,23,24,24,3]:=by simpa using Array.mem_of_getElem? ht
 have b:([22,23,24,24,3].all fun u=>!Tryz.prog.wantsStandIn u)=true:=by kernel_rfl
 exact(show Tryz.prog.wantsStandIn t=false by simpa using List.all_eq_true.1 b t e)
theorem all_card:Rows.AllUptoCardSaid:=
 Claim7.holds_tied_plain_at .later [] _ _ _ _ xu (fun _ h=>by cases h) (by kernel_rfl) (fun _ h=>by cases h) allUpto_row_tie rfl ⟨rfl,rfl⟩ (by kernel_rfl) rfl vo (by kernel_rfl)
#print axioms all_card
end
end Go.Proofs.YtklenjmfalljgabGreatDoor
