/- The texts Hgz Hha. -/
import Derived.Test.YtklenjmfalljgabGreatDoorM10
import Derived.Test.YtklenjmfalljgabGreatDoorM20
import Derived.Test.YtklenjmfalljgabGreatDoorM29
import Derived.Test.YtklenjmfalljgabGreatDoorM31
namespace Go.Proofs.YtklenjmfalljgabGreatDoor
set_option maxRecDepth 100000
set_option maxHeartbeats 8000000
section
open Go.RowKit
attribute [local go_sem] Go.World.cell?_alloc_some
theorem mm{w:World}{g:Nat}{x0 x1 x2 x3 a:Value}{t:TypeId}(h:w.heap[g]?=some (.cells #[x0,x1,x2,x3,a] t (0,0))):w.cell? ⟨g,0,none⟩=some x0/\w.cell? ⟨g,1,none⟩=some x1/\w.cell? ⟨g,2,none⟩=some x2/\w.cell? ⟨g,3,none⟩=some x3/\w.cell? ⟨g,4,none⟩=some a:=by
 simp [World.cell?,h]
theorem yI(n:Int)(w:World):Calls Tryz.prog 23 #[.int .i64 n] w fun e w'=>e= .returned (.int .i64 n)/\w'=w:=by
 go_enter Tryz.func23,Tryz.ntmps23
 go_wp2_with fail
 go_ret;exact⟨rfl,rfl⟩
theorem vN(W:World)(B:Nat)(w:World)(b:Nat)(who:Nat->Role)(n:Int)(f:Nat->Value)(K:Nat->List (Value × Int))(tv sv:Value)(p:List (List Ins))(s:List Int)(k0 k1 k2:Int)
  (h:Hz B w b who n f K) (hW:W.grownBy w none) (D:W.heap.size<=B) (hS:ShpAt W) (hP:ProgAt W (.agg #[tv]) p) (hI:IntsAt W.heap.size W sv s) (aj:p.length<=5864062014634) (aS:∀ c∈p,c.length<=4398046510976) (bn:s.length<=17592186043904) (aR:∀ c∈p,∀ i∈c,nInt i):
  Calls Tryz.prog 11 #[pt b,.agg #[tv,sv,.int .i64 k0,.int .i64 k1,.int .i64 k2]] w (HzE W B b n K w who):=by
 obtain⟨v,x,aT⟩:=hP.form;simp only [Value.agg.injEq,Array.mk.injEq,List.cons.injEq,and_true]at aT;subst aT;obtain⟨t,r,rfl⟩:=hI.form;have Y:=ij h;have HW:=ij hW;have HS:=ij hS;have HP:=ij hP;have Z:=ij hI;have aA:=ij aS;have ay:=ij aR;have O:pt b= .pointer (some ⟨b,0,none⟩):=rfl;clear h hW hS hP hI aS aR;rw [O];go_enter Tryz.func11,Tryz.ntmps11
 go_upto_region 1 with fail
 obtain⟨a,P⟩:∃ a,a=w.alloc (.cells #[.slice v p.length x,.slice t s.length r,.int .i64 k0,.int .i64 k1,.int .i64 k2] 56):=⟨_,rfl⟩;have ak:Hid (a.heap[w.heap.size]?=some (.cells #[.slice v p.length x,.slice t s.length r,.int .i64 k0,.int .i64 k1,.int .i64 k2] 56 (0,0))):=by unfold Hid;rw [P];exact heap_alloc_new w _
 have U:Hid (w.grownBy a none):=by unfold Hid;rw [P];exact iq (ir _ _)
 rw [<-P];clear P;have C:Hid (∀ u:World,u.heap[w.heap.size]?=a.heap[w.heap.size]?->u.cell? ⟨w.heap.size,0,none⟩=some (.slice v p.length x)/\u.cell? ⟨w.heap.size,1,none⟩=some (.slice t s.length r)/\u.cell? ⟨w.heap.size,2,none⟩=some (.int .i64 k0)/\u.cell? ⟨w.heap.size,3,none⟩=some (.int .i64 k1)/\u.cell? ⟨w.heap.size,4,none⟩=some (.int .i64 k2)):=fun u hu=>by
  obtain⟨e0,e1,e2,e3,e4⟩:=mm (show u.heap[w.heap.size]?=some (.cells #[.slice v p.length x,.slice t s.length r,.int .i64 k0,.int .i64 k1,.int .i64 k2] 56 (0,0)) by rw [hu];exact ak.out);exact⟨e0,e1,e2,e3,e4⟩
 have aB:Hid (W.grownBy a.drew none):=iy (il HW.out U.out);have aa:=ij (kz W B a.drew b who n f K [] [] [] (.agg #[.slice v p.length x]) p (Y.out.lx.grown (iy U.out)) aB.out D HP.out aj aA.out (by simpa using aj) (by simp));rw [O]at aa;have aU:who w.heap.size= .other:=by
  by_cases e:who w.heap.size= .other
  ·exact e
  ·exact absurd (Y.out.1.1.dom _ e).2 (by omega)
 have a6:=ij aU;have au:Hid (w.heap.size<a.heap.size):=(Array.getElem?_eq_some_iff.1 ak.out).1;clear aU;refine iz (fun u=>u.cell? ⟨w.heap.size,0,none⟩=some (.slice v p.length x)/\u.cell? ⟨w.heap.size,1,none⟩=some (.slice t s.length r)/\u.cell? ⟨w.heap.size,2,none⟩=some (.int .i64 k0)/\u.cell? ⟨w.heap.size,3,none⟩=some (.int .i64 k1)/\u.cell? ⟨w.heap.size,4,none⟩=some (.int .i64 k2)) 16 (by kernel_rfl) (by kernel_rfl) (C.out a.drew rfl) ?_;intro q;refine ie 0 ?v1 rfl (by kernel_rfl) (fun _ _ _ h=>h) (by kernel_rfl) ?y1 q ?_
 case y1=>(rintro u ⟨d,j,k,l,m⟩;go_simp;try rfl)
 simp only [Act.put,List.setIfInBounds_toArray];refine ie 1 ?v2 rfl (by kernel_rfl) (fun _ _ _ h=>h) (by kernel_rfl) ?y2 q ?_
 case y2=>(rintro u ⟨d,j,k,l,m⟩;go_simp;try rfl)
 simp only [Act.put];refine ie 2 ?v3 rfl (by kernel_rfl) (fun _ _ _ h=>h) (by kernel_rfl) ?y3 q ?_
 case y3=>(rintro u ⟨d,j,k,l,m⟩;go_simp;try rfl)
 simp only [Act.put];refine ie 4 ?v4 rfl (by kernel_rfl) (fun _ _ _ h=>h) (by kernel_rfl) ?y4 q ?_
 case y4=>(rintro u ⟨d,j,k,l,m⟩;go_simp;try rfl)
 simp only [Act.put];refine ie 5 ?v5 rfl (by kernel_rfl) (fun _ _ _ h=>h) (by kernel_rfl) ?y5 q ?_
 case y5=>(rintro u ⟨d,j,k,l,m⟩;go_simp;try rfl)
 simp only [Act.put];refine ie 6 ?v6 rfl (by kernel_rfl) (fun _ _ _ h=>h) (by kernel_rfl) ?y6 q ?_
 case y6=>(rintro u ⟨d,j,k,l,m⟩;go_simp;try rfl)
 simp only [Act.put];refine ie 8 ?v7 rfl (by kernel_rfl) (fun _ _ _ h=>h) (by kernel_rfl) ?y7 q ?_
 case y7=>(rintro u ⟨d,j,k,l,m⟩;go_simp;try rfl)
 simp only [Act.put];refine ie 9 ?v8 rfl (by kernel_rfl) (fun _ _ _ h=>h) (by kernel_rfl) ?y8 q ?_
 case y8=>(rintro u ⟨d,j,k,l,m⟩;go_simp;try rfl)
 simp only [Act.put];refine iu (i:=3) rfl (by kernel_rfl) (by kernel_rfl) (by kernel_rfl) ?_;intro K3 aJ;have aq:=ij aJ;clear aJ;go_simp;refine(aa.out).mono ?_;clear aa;rintro e A ⟨g,LC1,aW,f1,rfl,I,ai,F,bm⟩;obtain⟨E,H⟩:=F.oth w.heap.size au.out a6.out (fun e=>e);have al:Hid (A.heap[w.heap.size]?=a.heap[w.heap.size]?):=E;have ad:Hid (W.grownBy A none):=F.base aB.out D (fun g e=>(Y.out.1.1.dom g e).1) (fun _ e=>e.elim);have aY:Hid (Fr w A who aW (fun g=>w.heap.size<=g)):=(Fr.grown (iy U.out)).step0 F;have aQ:LC1.length=p.length:=by rw [<-ai];simp
 simp only [List.nil_append]at I;have ac:=ij (jP B A b aW n f1 K [] LC1 [(g,p.length)] 0 (.slice t s.length r) s I ((Z.out.pres (ip ad.out)).mono ad.out.size) (kg I.hs D Z.out) bn (by simp));rw [O]at ac;have a9:=ij I;have a1:=ij ai;have a7:=ij H;have ax:=ij aQ;have av:Hid (w.heap.size<A.heap.size):=by unfold Hid;have:=F.size;have:=au.out;simp only [World.drew]at*;omega
 clear I ai F bm E H aQ;have aG:=C.out A al.out;refine aq.out _ _ aG ?_;clear aq;try simp only [Act.put,List.setIfInBounds_toArray]
 refine iu (i:=7) rfl (by kernel_rfl) (by kernel_rfl) (by kernel_rfl) ?_;intro K7 aK;have ar:=ij aK;clear aK;go_simp;refine(ac.out).mono ?_;clear ac;rintro e o ⟨gs,R,f2,rfl,z,G⟩;simp only [List.nil_append]at z;have aC:Hid (W.grownBy o none):=G.base ad.out D (fun g e=>(a9.out.hs.1.dom g e).1) (fun _ e=>e.elim);have aZ:Hid (Fr w o who R (fun g=>w.heap.size<=g)):=aY.out.step0 G;obtain⟨E,H⟩:=G.oth w.heap.size av.out a7.out (fun e=>e);have am:Hid (o.heap[w.heap.size]?=a.heap[w.heap.size]?):=E.trans al.out;have a8:=ij H;have aP:o.heap[g]?=some (.cells (lentRows LC1) 66 (0,0)):=by
  have:=(z.le.lr 0 (by simp)).1;simp only [List.getElem_cons_zero,List.take_zero,List.map_nil,List.sum_nil,List.drop_zero]at this;rw [List.take_of_length_le (by rw [ax.out];omega)]at this;exact this
 have aL:ProgAt o (.agg #[.slice (some ⟨g,0,none⟩) p.length (p.length+2)]) p:=ky (LC0:=[]) (by simpa using z.le) aP a1.out _;have aH:IntsAt o.heap.size o (.slice (some ⟨gs,0,none⟩) s.length (s.length+2)) s:=jQ (z.le.li (gs,s,.slice t s.length r) (by simp)).1;have T:=ij (tK p s k0 k1 k2 _ _ o (HS.out.pres (ip aC.out)) aL aH ay.out);have aD:=ij z;have aw:Hid (w.heap.size<o.heap.size):=by unfold Hid;have:=G.size;have:=av.out;omega
 clear z G E H aP aL aH;have ae:=C.out o am.out;obtain⟨SS,EE,ah⟩:=sR ⟨p,s,(k0,k1,k2)⟩;rw [ah]at T;have a3:=ij ah;clear ah;refine ar.out _ _ ae ?_;clear ar;try simp only [Act.put,List.setIfInBounds_toArray]
 refine ie 10 ?v9 rfl (by kernel_rfl) (fun _ _ _ h=>h) (by kernel_rfl) ?y9 ae ?_
 case y9=>(rintro u ⟨d,j,k,l,m⟩;go_simp;try rfl)
 simp only [Act.put,List.setIfInBounds_toArray];refine iu (i:=11) rfl (by kernel_rfl) (by kernel_rfl) (by kernel_rfl) ?_;intro K11 aI;have ap:=ij aI;clear aI;go_simp;refine(T.out).mono ?_;clear T;rintro e Q ⟨rfl,N⟩;have V:=ij N;have an:Hid (Q.heap[w.heap.size]?=a.heap[w.heap.size]?):=by unfold Hid;rw [N.block _ aw.out (by simp)];exact am.out
 have a5:Hid (W.grownBy Q none):=il aC.out N;clear N;have y:=C.out Q an.out;refine ap.out _ _ y ?_;clear ap;try simp only [Act.put,List.setIfInBounds_toArray]
 refine ie 12 ?v10 rfl (by kernel_rfl) (fun _ _ _ h=>h) (by kernel_rfl) ?y10 y ?_
 case y10=>(rintro u ⟨d,j,k,l,m⟩;go_simp;try rfl)
 simp only [Act.put,List.setIfInBounds_toArray];refine ie 13 ?v11 rfl (by kernel_rfl) (fun _ _ _ h=>h) (by kernel_rfl) ?y11 y ?_
 case y11=>(rintro u ⟨d,j,k,l,m⟩;go_simp;try rfl)
 simp only [Act.put];refine ie 14 ?v12 rfl (by kernel_rfl) (fun _ _ _ h=>h) (by kernel_rfl) ?y12 y ?_
 case y12=>(rintro u ⟨d,j,k,l,m⟩;go_simp;try rfl)
 simp only [Act.put];refine ie 15 ?v13 rfl (by kernel_rfl) (fun _ _ _ h=>h) (by kernel_rfl) ?y13 y ?_
 case y13=>(rintro u ⟨d,j,k,l,m⟩;go_simp;try rfl)
 simp only [Act.put];refine iF rfl (by kernel_rfl) (by kernel_rfl) (by kernel_rfl) ?_;go_simp;clear q aG ae y;have S:=ij (m9 B Q b R n f2 K _ _ _ (aD.out.grown V.out) (by simp) (by rw [ax.out];omega) (by simp));rw [O]at S;go_wp2_with fail
 refine S.out.mono ?_;clear S;rintro e J ⟨rfl,f4,aV,M⟩;have L:Hid (W.grownBy J none):=M.base a5.out D (fun g e=>(aD.out.hs.1.dom g e).1) (fun _ e=>e.elim);have a0:Hid (Fr w J who R (fun g=>w.heap.size<=g)):=(aZ.out.stepG V.out).step0 M;have aX:Hid (J.heap[w.heap.size]?=a.heap[w.heap.size]?):=by
  unfold Hid;rw [(M.oth w.heap.size (Nat.lt_of_lt_of_le aw.out V.out.size) a8.out (fun e=>e)).1];exact an.out
 obtain⟨d0,d1,d2,d3,d4⟩:=C.out J aX.out;have ab:=ij (nQ p s k0 k1 k2 (.slice v p.length x) (.slice t s.length r) J (HP.out.pres (ip L.out)) ((Z.out.pres (ip L.out)).mono L.out.size) aj aA.out ay.out);rw [a3.out]at ab;have aE:=ij aV;clear aV M;go_wp2_with fail
 refine ab.out.mono ?_;clear ab d0 d1 d2 d3 d4;rintro e w5 ⟨aO,rfl⟩;have X:=ij aO;clear aO;go_wp2_with (go_at_call 23;refine(yI _ _).mono ?_;rintro e w9 ⟨rfl,bo⟩;have bp:=bo.symm;subst bp)
 go_ret;exact⟨by simp,R,f4,⟨aE.out.1.grown X.out,aE.out.2⟩,il L.out X.out,a0.out.stepG X.out⟩
theorem vJ(W:World)(B:Nat)(w:World)(b:Nat)(who:Nat->Role)(n:Int)(f:Nat->Value)(K:Nat->List (Value × Int))(s:ByteArray)
  (h:Hz B w b who n f K) (hW:W.grownBy w none) (bb:W.heap.size<=B) (hS:ShpAt W) (hs:s.size<=9223372036854775000) (bI:0<=n) (hn1:n<=8000000000000) (hK:∀ c,c<5->(K c).length<=4900000000000):
  Calls Tryz.prog 12 #[pt b,.string s] w (HzD W B b n K):=by
 have v:=ij h;have HW:=ij hW;have HS:=ij hS;have Y:=ij hK;have af:pt b= .pointer (some ⟨b,0,none⟩):=rfl;have m:=ij (qL s);have aM:=ij (fun(u:World) (hu:W.grownBy u none)=>xL s u (HS.out.pres (ip hu)) (by omega));have aV:=ij (fun(u:World)=>sS s u hs);clear h hW hS hK;rw [af];go_enter Tryz.func12,Tryz.ntmps12
 go_wp2_with fail
 refine(aM.out _ HW.out).mono ?_;clear aM;intro e d hD;obtain⟨bd,tv,sv,he,S,R⟩:=hD.form;clear hD;subst he;have av:Hid (∀ u e u',RDec u s e u'->u.grownBy u' none/\∃ tv sv,e= .returned (.tuple #[.agg #[tv,sv,.int .i64 (decOut s).1.ver.1,.int .i64 (decOut s).1.ver.2.1,.int .i64 (decOut s).1.ver.2.2],.int .i64 (decOut s).2])/\ProgAt u' (.agg #[tv]) (decOut s).1.prog/\IntsAt u'.heap.size u' sv (decOut s).1.sch):=fun u e u' h=>h.form
 generalize decOut s=D at*;obtain⟨⟨p,a,k0,k1,k2⟩,ce⟩:=D;simp only at S R av m;obtain⟨A,t2,C,rfl⟩:=iw S.choose_spec.1;obtain⟨j,s2,l,rfl⟩:=iw R;have bM:=iB S.choose_spec.1;have bL:=iB R;subst bM bL;have aX:=ij S;have aT:=ij R;have aP:=ij bd;clear S R bd;go_upto_region 2 with fail
 obtain⟨t,ah⟩:∃ t,t=d.alloc (.cells #[.slice A p.length C,.slice j a.length l,.int .i64 k0,.int .i64 k1,.int .i64 k2] 56):=⟨_,rfl⟩;have aK:Hid (t.heap[d.heap.size]?=some (.cells #[.slice A p.length C,.slice j a.length l,.int .i64 k0,.int .i64 k1,.int .i64 k2] 56 (0,0))):=by unfold Hid;rw [ah];exact heap_alloc_new d _
 have bo:Hid (d.grownBy t none):=by unfold Hid;rw [ah];exact iq (ir _ _)
 rw [<-ah];clear ah;have au:Hid (w.heap.size<=d.heap.size/\d.heap.size<t.heap.size):=⟨aP.out.size,(Array.getElem?_eq_some_iff.1 aK.out).1⟩;generalize bh:d.heap.size=n5 at*;have aN:=ij bh;clear bh;go_wp2_with fail
 refine(aV.out t).mono ?_;clear aV;intro e U hR;obtain⟨be,rv,yv,he,aE,aD⟩:=av.out _ _ _ hR;clear hR av;subst he;obtain⟨ra,rc,bk⟩:=aE.form;simp only [Value.agg.injEq,Array.mk.injEq,List.cons.injEq,and_true]at bk;subst bk;obtain⟨ya,yc,rfl⟩:=aD.form;have bq:=ij be;have bw:=ij aE;have bu:=ij aD;clear be aE aD;go_upto_region 3 with fail
 obtain⟨i,ai⟩:∃ i,i=U.alloc (.cells #[.slice ra p.length rc,.slice ya a.length yc,.int .i64 k0,.int .i64 k1,.int .i64 k2] 56):=⟨_,rfl⟩;have aL:Hid (i.heap[U.heap.size]?=some (.cells #[.slice ra p.length rc,.slice ya a.length yc,.int .i64 k0,.int .i64 k1,.int .i64 k2] 56 (0,0))):=by unfold Hid;rw [ai];exact heap_alloc_new U _
 have V:Hid (U.grownBy i none):=by unfold Hid;rw [ai];exact iq (ir _ _)
 rw [<-ai];clear ai;generalize bi:U.heap.size=n7 at*;have bm:=ij bi;clear bi;have ao:Hid (t.grownBy i none):=il bq.out V.out;have an:Hid (d.grownBy i none):=il bo.out ao.out;have Z:Hid (∀ u:World,i.grownBy u none->(u.cell? ⟨n5,0,none⟩=some (.slice A p.length C)/\u.cell? ⟨n5,1,none⟩=some (.slice j a.length l)/\u.cell? ⟨n5,2,none⟩=some (.int .i64 k0)/\u.cell? ⟨n5,3,none⟩=some (.int .i64 k1)/\u.cell? ⟨n5,4,none⟩=some (.int .i64 k2))/\(u.cell? ⟨n7,0,none⟩=some (.slice ra p.length rc)/\u.cell? ⟨n7,1,none⟩=some (.slice ya a.length yc)/\u.cell? ⟨n7,2,none⟩=some (.int .i64 k0)/\u.cell? ⟨n7,3,none⟩=some (.int .i64 k1)/\u.cell? ⟨n7,4,none⟩=some (.int .i64 k2))):=fun u hu=>
  ⟨mm (by rw [(il ao.out hu).block n5 au.out.2 (by simp)];exact aK.out),mm (by rw [hu.block n7 (Array.getElem?_eq_some_iff.1 aL.out).1 (by simp)];exact aL.out)⟩
 have bv:Hid (ProgAt d (.agg #[.slice A p.length C]) p):=aX.out.progAt;have aW:=ij (pK p _ _ i (bv.out.pres (ip an.out)) (bw.out.pres (ip V.out)) (by have:=m.out.1;omega) (fun c hc=>by have:=m.out.2.1 c hc;omega));obtain⟨⟨F,o,G,H,I⟩,J,L,M,N,O⟩:=Z.out i (ir _ _);clear o G H I L M N O;go_wp2_with fail
 refine aW.out.mono ?_;clear aW F J;rintro e w5 ⟨rfl,z⟩;have br:=ij z;have bp:Hid (d.grownBy w5 none):=il an.out z;have aw:=ij (pi a a (.slice j a.length l) (.slice ya a.length yc) w5 (iV (iC aT.out bp.out (fun _ e=>by cases e))) ((bu.out.pres (ip (il V.out z))).mono (by have:=bm.out;have:=(il V.out z).size;omega)) (by have:=m.out.2.2;omega));rw [show (a==a)=true by simp]at aw;obtain⟨⟨F,o,G,H,I⟩,J,L,M,N,O⟩:=Z.out w5 z;clear z F G H I J M N O;go_wp2_with fail
 refine aw.out.mono ?_;clear aw o L;rintro e w6 ⟨rfl,bf⟩;have X:Hid (i.grownBy w6 none):=il br.out (iH bf);have E:Hid (d.grownBy w6 none):=il an.out X.out;have aO:Hid (w.grownBy w6 none):=il aP.out E.out;clear bf;obtain⟨⟨F,o,G,H,I⟩,J,L,M,N,O⟩:=Z.out w6 X.out;clear o J L;go_upto_region 6 with (go_at_call 23;refine(yI _ _).mono ?_;rintro e w9 ⟨rfl,bN⟩;have bO:=bN.symm;subst bO)
 clear G H I M N O;have hlow:B<=w.heap.size:=by have:=v.out.1.1.dom b (by rw [v.out.1.1.wb];simp);omega
 obtain⟨T,hTl,Q⟩:=Be aX.out (fun c hc=>by have:=m.out.2.1 c hc;omega);have hT4:T.length<=4:=by have:=m.out.1;omega
 have ae:∀ q,w.heap.size<=q->who q= .other:=fun q hq=>by
  by_cases ho:who q= .other
  ·exact ho
  ·exact absurd (v.out.1.1.dom q ho).2 (by omega)
 have aU:=ij ae;have y:=ij Q;have aq:=ij (py B w6 b who n f K (.slice A p.length C) T (v.out.1.grown aO.out) ((Q.grown E.out).low (by omega)) (fun q e=>ae q (by have:=iA Q.row q e;omega)) (fun x hx q e=>ae q (by have:=iA (Q.el x hx).1 q e;omega)) bI (by omega) (by have:=Y.out 3 (by omega);omega) (by have:=Y.out 4 (by omega);omega) (by omega));rw [af]at aq;clear Q ae;go_wp2_with fail
 refine aq.out.mono ?_;clear aq F;rintro e w7 ⟨⟨v7,rfl⟩,aI,f7,K7,az,ac,bc,bG,bH,ad⟩;have bA:Hid (W.grownBy w6 none):=il HW.out aO.out;have aC:∀ q,((Value.slice A p.length C).ownBlock=some q\/∃ x∈T,x.1.ownBlock=some q)->w.heap.size<=q/\q<n5:=fun q e=>by
  rcases e with e | ⟨x,hx,e⟩
  ·have h1:=iA y.out.row q e;have h2:=iP y.out.row q e;have:=aN.out;omega
  ·have h1:=iA (y.out.el x hx).1 q e;have h2:=iP (y.out.el x hx).1 q e;have:=aN.out;omega
 have bB:Hid (W.grownBy w7 none):=ac.base bA.out bb (fun g e=>(v.out.1.1.dom g e).1) (fun q e=>by have:=(aC q e).1;have:=HW.out.size;omega);have bJ:n5<w6.heap.size:=by have:=au.out.2;have:=(il ao.out X.out).size;omega
 have o:w7.cell? ⟨n5,1,none⟩=some (.slice j a.length l):=by
  rw [World.cell?_of_block (ac.oth n5 bJ (aU.out n5 au.out.1) (fun e=>by have:=(aC n5 e).2;omega)).1];exact(Z.out w6 X.out).1.2.1
 have r:w6.ownsRow (w.heap.size+6) 3 1 (.slice j a.length l) a.length (ints a):=iC aT.out E.out (fun _ e=>by cases e);have ag:∀ q,(Value.slice j a.length l).ownBlock=some q->w7.heap[q]?=w6.heap[q]?/\aI q= .other:=fun q e=>by
  refine ac.oth q (iP r q e) (aU.out q (by have:=iA r q e;omega)) (fun h=>?_);rcases h with h | ⟨x,hx,h⟩
  ·exact mr r (y.out.grown E.out).row (by decide) q e h
  ·exact mr r ((y.out.grown E.out).el x hx).1 (by decide) q e h
 have bz:=ij (fun q e=>(And.intro (iA r q e) (ag q e).2:w.heap.size+6<=q/\aI q= .other));have ar:=ij (lj B w7 b aI (n+T.length+1) f7 K7 (.slice j a.length l) a.length _ az (iK (iI r (fun q e=>(ag q e).1)) (by omega)) (fun q e=>(ag q e).2) (by omega) (by omega) (by rw [ad 0 (by omega) (by omega)];have:=Y.out 0 (by omega);omega) (by have:=m.out.2.2;omega));rw [af]at ar;have bt:=ij az;have aS:Hid (∀ c,c<5->(K7 c).length<=(K c).length+16/\(c=0->K7 c=K c)):=fun c hc=>by
  refine⟨?_,fun e=>ad c (by omega) (by omega)⟩;by_cases e3:c=3
  ·subst e3;omega
  ·by_cases e4:c=4
   ·subst e4;omega
   ·rw [ad c e3 e4];omega
 have bn:=ij bc;clear az ac bc bG bH ad ag r aC;go_wp2_with fail
 refine ar.out.mono ?_;clear ar o;rintro e w8 ⟨⟨v8,rfl⟩,aJ,f8,K8,aA,P⟩;have bC:Hid (W.grownBy w8 none):=P.fr.base bB.out bb (fun g e=>(bt.out.1.dom g e).1) (fun q e=>by have:=(bz.out q e).1;have:=HW.out.size;omega);have aY:Hid (Hz B w8 b aJ (n+T.length+1+1) f8 K8):=⟨aA,fun k hk=>by rw [P.lent k hk,bn.out k hk];exact v.out.2 k hk⟩;have aR:Hid (∀ c,c<5->(K8 c).length<=(K c).length+16):=fun c hc=>by
  by_cases e:c=0
  ·subst e;have:=P.len;rw [(aS.out 0 (by omega)).2 rfl]at this;omega
  ·rw [P.oth c e];exact(aS.out c hc).1
 have ap:=ij (mK B w8 b aJ (n+T.length+1+1) f8 K8 aA (fun c hc=>by have:=aR.out c hc;have:=Y.out c hc;omega));rw [af]at ap;clear aA P;go_wp2_with fail
 refine ap.out.mono ?_;clear ap;rintro e w9 ⟨rfl,bg⟩;have aQ:Hid (w8.grownBy w9 none):=iH bg;clear bg;go_wp2_with fail
 go_ret;exact⟨by simp,_,aJ,f8,K8,by omega,by omega,⟨aY.out.1.grown aQ.out,aY.out.2⟩,il bC.out aQ.out,aR.out⟩
end
end Go.Proofs.YtklenjmfalljgabGreatDoor
