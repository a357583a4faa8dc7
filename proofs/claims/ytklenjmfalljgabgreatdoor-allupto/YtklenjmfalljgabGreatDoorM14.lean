/- The texts Hgu Hgo Hgp Hgq. -/
import Derived.Test.YtklenjmfalljgabGreatDoorM06
import Derived.Test.YtklenjmfalljgabGreatDoorM11
import Derived.Test.YtklenjmfalljgabGreatDoorM13
namespace Go.Proofs.YtklenjmfalljgabGreatDoor
set_option maxRecDepth 100000
set_option maxHeartbeats 8000000
section
open Go.RowKit
attribute [local go_sem] Go.World.cell?_alloc_some nZ
theorem ut(W:World)(B:Nat)(w:World)(b:Nat)(who:Nat->Role)(n:Int)(f:Nat->Value)(K:Nat->List (Value × Int))(pv sv:Value)(p:List (List Ins))(s:List Int)
  (h:Hz B w b who n f K) (hW:W.grownBy w none) (V:W.heap.size<=B) (hS:ShpAt W) (hP:ProgAt W pv p) (hI:IntsAt W.heap.size W sv s) (hpl:p.length<=2932031007300) (bh:∀ c∈p,c.length<=4398046510976) (cU:s.length<=17592186043904) (cR:0<=n) (cS:n<=9000000000000) (hK:∀ c,c<5->(K c).length<=4900000000000):
  Calls Tryz.prog 6 #[pt b,pv,sv] w (HzF W B b (n+2) K w who):=by
 have HH:=ij h;have HW:=ij hW;have HS:=ij hS;have HP:=ij hP;have HI:=ij hI;have aX:=ij bh;have HK:=ij hK;obtain⟨R,S,rfl⟩:=hP.form;obtain⟨so,sc,rfl⟩:=hI.form;have aK:pt b= .pointer (some ⟨b,0,none⟩):=rfl;have ac:=ij (kz W B (w.alloc (.cells #[.slice R p.length S] 37)) b who n f K [] [] [] (.agg #[.slice R p.length S]) p (h.lx.grown (iq (ir _ _))) (iq hW) V hP (by omega) bh (by simp;omega) (by simp));clear h hW hS hP hI bh hK;rw [aK]at ac ⊢;go_enter Tryz.func6,Tryz.ntmps6
 go_wp2_with fail
 refine ac.out.mono ?_;clear ac;rintro e w1 ⟨g,LC1,bm,f1,rfl,aL,bf,aH,l⟩;have ch:who w.heap.size= .other:=by
  by_cases e:who w.heap.size= .other
  ·exact e
  ·exact absurd (HH.out.1.1.dom _ e).2 (by omega)
 obtain⟨X,Z⟩:=aH.oth w.heap.size (by simp) ch (fun e=>e);have bM:Hid (W.grownBy w1 none):=aH.base (iq HW.out) V (fun g e=>(HH.out.1.1.dom g e).1) (fun _ e=>e.elim);have ct:Hid (Fr w w1 who bm (fun g=>w.heap.size<=g)):=(Fr.grown (iq (ir _ _))).step0 aH;have c1:w1.cell? ⟨w.heap.size,0,none⟩=some (.slice R p.length S):=by
  simp only [World.cell?,X,heap_alloc_new];rfl
 have cc:LC1.length=p.length:=by rw [<-bf];simp
 simp only [List.nil_append]at aL;have ar:ProgAt w1 (.agg #[.slice (some ⟨g,0,none⟩) p.length (p.length+2)]) p:=ky (LC0:=[]) (by simpa using aL.le) l bf _;have br:=ij (uJ p _ w1 (HS.out.pres (ip bM.out)) ar);have bT:=ij aL;have bQ:=ij Z;have aD:=ij cc;have bo:=ij c1;clear aL bf aH l X ch Z cc ar c1;go_wp2_with fail
 refine br.out.mono ?_;clear br;rintro e w2 ⟨rfl,av⟩;have bN:Hid (W.grownBy w2 none):=il bM.out av;have cu:Hid (Fr w w2 who bm (fun g=>w.heap.size<=g)):=ct.out.stepG av;have a1:=ij (bT.out.grown av);have c2:=ip av _ _ bo.out;have ce:w.heap.size<w2.heap.size:=World.block_lt_of_cell? w2 _ c2;have ac:=ij (kz W B w2 b bm n f1 K [] LC1 [(g,p.length)] (.agg #[.slice R p.length S]) p a1.out bN.out V HP.out (by omega) aX.out (by rw [aD.out];omega) (by simp));have bp:=ij c2;obtain⟨cn,bd⟩:∃ cn,cn=checkN p:=⟨_,rfl⟩;rw [<-bd];have bt:=ij bd;clear av bT bo bd;rw [aK]at ac;go_wp2_with fail
 refine ac.out.mono ?_;clear ac c2;rintro e w3 ⟨g3,a4,cm,f3,rfl,az,bg,aI,o⟩;have a0:Hid (W.grownBy w3 none):=aI.base bN.out V (fun g e=>(a1.out.hs.1.dom g e).1) (fun _ e=>e.elim);have cv:Hid (Fr w w3 who cm (fun g=>w.heap.size<=g)):=cu.out.step0 aI;obtain⟨X,Z⟩:=aI.oth w.heap.size ce bQ.out (fun e=>e);have aR:Hid (w3.cell? ⟨w.heap.size,0,none⟩=some (.slice R p.length S)):=by
  unfold Hid;rw [World.cell?_of_block X];exact bp.out
 have cf:w.heap.size<w3.heap.size:=World.block_lt_of_cell? w3 _ aR.out;have cd:a4.length=p.length:=by rw [<-bg];simp
 simp only [List.singleton_append]at az;have aZ:=ij (jP B w3 b cm n f3 K [] (LC1++a4) [(g,p.length),(g3,p.length)] 0 (.slice so s.length sc) s az ((HI.out.pres (ip a0.out)).mono a0.out.size) (kg az.hs V HI.out) cU (by simp));have bU:=ij az;have cB:=ij bg;have bD:=ij cd;have bR:=ij Z;clear az bg aI o X Z cd a1 bp bQ;rw [aK]at aZ;go_wp2_with fail
 refine aZ.out.mono ?_;clear aZ;rintro e Q ⟨gs,T,f4,rfl,aj,aJ⟩;simp only [List.nil_append]at aj;have bO:Hid (W.grownBy Q none):=aJ.base a0.out V (fun g e=>(bU.out.hs.1.dom g e).1) (fun _ e=>e.elim);have bv:Hid (Fr w Q who T (fun g=>w.heap.size<=g)):=cv.out.step0 aJ;obtain⟨X,Z⟩:=aJ.oth w.heap.size cf bR.out (fun e=>e);have bS:=ij Z;have bq:Hid (Q.cell? ⟨w.heap.size,0,none⟩=some (.slice R p.length S)):=by
  unfold Hid;rw [World.cell?_of_block X];exact aR.out
 have ca:Q.heap[g3]?=some (.cells (lentRows a4) 66 (0,0)):=by
  have:=(aj.le.lr 1 (by simp)).1;simp only [List.getElem_cons_succ,List.getElem_cons_zero,List.take_succ_cons,List.take_zero,List.map_cons,List.map_nil,List.sum_cons,List.sum_nil,Nat.add_zero]at this;rw [List.drop_append_of_le_length (by rw [aD.out];omega),List.drop_eq_nil_of_le (by rw [aD.out];omega),List.nil_append,List.take_of_length_le (by rw [bD.out];omega)]at this;exact this
 have ar:ProgAt Q (.agg #[.slice (some ⟨g3,0,none⟩) p.length (p.length+2)]) p:=ky (LC0:=LC1) aj.le ca cB.out _;have b0:IntsAt Q.heap.size Q (.slice (some ⟨gs,0,none⟩) s.length (s.length+2)) s:=jQ (aj.le.li (gs,s,.slice so s.length sc) (by simp)).1;have bH:=ij (sV p s _ _ Q (HS.out.pres (ip bO.out)) ar b0);have aq:=ij aj;clear aj aJ X Z ca ar b0 bU aR bR ce cf;go_wp2_with fail
 refine bH.out.mono ?_;clear bH;intro e N hR;obtain⟨b8,rv,c,he,hV⟩:=hR.form;clear hR;subst he;have HR:=ij hV;obtain⟨k,t,a,P,v1,v2,v3,x1,x3,y1,y3,m,q,cT,hx⟩:=hV;clear hx;subst cT;have an:=ij b8;clear b8;go_wp2_with fail
 have ai:N.grownBy (N.alloc (.cells #[.int .i64 k,.int .i64 t,.int .i64 a,.slice x1 m x3,.int .i64 P,.int .i64 v1,.int .i64 v2,.int .i64 v3,.slice y1 q y3] 31)) none:=iq (ir _ _);have d:=heap_alloc_new N (.cells #[.int .i64 k,.int .i64 t,.int .i64 a,.slice x1 m x3,.int .i64 P,.int .i64 v1,.int .i64 v2,.int .i64 v3,.slice y1 q y3] 31);generalize N.alloc (.cells #[.int .i64 k,.int .i64 t,.int .i64 a,.slice x1 m x3,.int .i64 P,.int .i64 v1,.int .i64 v2,.int .i64 v3,.slice y1 q y3] 31)=w6 at ai d ⊢;have af:=ij ai;have bn:=ij d;have bC:Hid (N.heap.size<w6.heap.size):=(Array.getElem?_eq_some_iff.1 d).1;have bP:Hid (W.grownBy w6 none):=il bO.out (il an.out ai);have cw:Hid (Fr w w6 who T (fun g=>w.heap.size<=g)):=bv.out.stepG (il an.out ai);have aQ:=ij (m9 B w6 b T n f4 K _ _ _ (aq.out.grown (il an.out ai)) (by simp) (by rw [List.length_append,aD.out,bD.out];omega) (by simp));rw [aK]at aQ;clear ai d;refine aQ.out.mono ?_;clear aQ;rintro e w7 ⟨rfl,f7,ci,ad⟩;have ap:Hid (W.grownBy w7 none):=ad.base bP.out V (fun g e=>(aq.out.hs.1.dom g e).1) (fun _ e=>e.elim);have cx:Hid (Fr w w7 who T (fun g=>w.heap.size<=g)):=cw.out.step0 ad;have Y:∀ g,Q.heap.size<=g->T g= .other:=fun g h1=>by
  by_cases e:T g= .other
  ·exact e
  ·exact absurd (aq.out.hs.1.dom g e).2 (by omega)
 have HOT:=ij Y;have bu:Hid (B<=Q.heap.size):=by
  have:=aq.out.low;unfold Hid;omega
 have a9:=an.out.size;have aO:Hid (w7.heap[N.heap.size]?=some (.cells #[.int .i64 k,.int .i64 t,.int .i64 a,.slice x1 m x3,.int .i64 P,.int .i64 v1,.int .i64 v2,.int .i64 v3,.slice y1 q y3] 31 (0,0))):=by
  unfold Hid;rw [(ad.oth N.heap.size bC.out (Y _ a9) (fun e=>e)).1];exact bn.out
 have aS:Hid (w7.cell? ⟨w.heap.size,0,none⟩=some (.slice R p.length S)):=by
  have b6:=ip (il an.out af.out) _ _ bq.out;unfold Hid;rw [World.cell?_of_block (ad.oth w.heap.size (World.block_lt_of_cell? w6 _ b6) bS.out (fun e=>e)).1];exact b6
 obtain⟨hm,hq,ak,aA⟩:=HR.out.rows;have bV:Hid (w7.ownsRow Q.heap.size 76 2 (.slice x1 m x3) m (flatS (stpL p s))):=iI (iC ak af.out (fun _ e=>by cases e)) (fun g e=>(ad.oth g (Nat.lt_of_lt_of_le (iP ak g e) af.out.size) (Y g (iA ak g e)) (fun e=>e)).1);have bW:Hid (w7.ownsRow Q.heap.size 28 4 (.slice y1 q y3) q (regsF (rgsN p s) (runS p s).st)):=iI (iC aA af.out (fun _ e=>by cases e)) (fun g e=>(ad.oth g (Nat.lt_of_lt_of_le (iP aA g e) af.out.size) (Y g (iA aA g e)) (fun e=>e)).1);have cC:Hid ((Value.slice x1 m x3).ownBlock≠some N.heap.size):=fun e=>by have:=iP ak _ e;omega
 have cG:Hid (∀ g,(Value.slice x1 m x3).ownBlock=some g->T g= .other):=fun g e=>Y g (iA ak g e)
 have cH:Hid (∀ g,(Value.slice y1 q y3).ownBlock=some g->T g= .other):=fun g e=>Y g (iA aA g e)
 have aV:Hid (m=(stpL p s).length/\q=rgsN p s):=⟨hm,hq⟩;have a3:=ij ci;have bG:=ij (sT p s _ _ w7 (HP.out.pres (ip ap.out)) ((HI.out.pres (ip ap.out)).mono ap.out.size) (by omega) aX.out);have c7:=aS.out;have cD:Hid (T N.heap.size= .other):=Y _ a9;clear ci ad Y hm hq ak aA aq bq bn bP bC af bS a9;go_wp2_with fail
 refine bG.out.mono ?_;clear bG c7;intro e O hR;obtain⟨b9,rv,c',he,hV⟩:=hR.form;clear hR;subst he;have bF:=ij hV;obtain⟨cQ,k2,t2,a2,u0,u1,u2,u3,e1,e2,e3,e4,m2,q2,z1,z3,r1,r3,hA,hB⟩:=HR.out.same hV;clear hV;simp only [Value.agg.injEq,Array.mk.injEq,List.cons.injEq,Value.int.injEq,Value.slice.injEq,true_and,and_true]at hA;obtain⟨rfl,rfl,rfl,⟨rfl,rfl,rfl⟩,rfl,rfl,rfl,rfl,rfl,rfl,rfl⟩:=hA;subst hB cQ;have bw:=ij b9;clear b9 HR;go_upto_region 5 with fail
 have aw:O.grownBy (O.alloc (.cells #[.int .i64 k,.int .i64 t,.int .i64 a,.slice z1 m z3,.int .i64 P,.int .i64 v1,.int .i64 v2,.int .i64 v3,.slice r1 q r3] 31)) none:=iq (ir _ _);have bc:=heap_alloc_new O (.cells #[.int .i64 k,.int .i64 t,.int .i64 a,.slice z1 m z3,.int .i64 P,.int .i64 v1,.int .i64 v2,.int .i64 v3,.slice r1 q r3] 31);generalize O.alloc (.cells #[.int .i64 k,.int .i64 t,.int .i64 a,.slice z1 m z3,.int .i64 P,.int .i64 v1,.int .i64 v2,.int .i64 v3,.slice r1 q r3] 31)=w9 at aw bc ⊢;have U:Hid (w7.grownBy w9 none):=il bw.out aw;have aP:=ij bc;have aN:Hid (w9.heap[N.heap.size]?=some (.cells #[.int .i64 k,.int .i64 t,.int .i64 a,.slice x1 m x3,.int .i64 P,.int .i64 v1,.int .i64 v2,.int .i64 v3,.slice y1 q y3] 31 (0,0))):=by
  unfold Hid;rw [U.out.block _ (Array.getElem?_eq_some_iff.1 aO.out).1 (by simp)];exact aO.out
 obtain⟨hm,hq,cj,cg⟩:=bF.out.rows;have aE:Hid (w9.ownsRow Q.heap.size 76 2 (.slice x1 m x3) m (flatS (stpL p s))):=iC bV.out U.out (fun _ e=>by cases e);have aF:Hid (w9.ownsRow Q.heap.size 28 4 (.slice y1 q y3) q (regsF (rgsN p s) (runS p s).st)):=iC bW.out U.out (fun _ e=>by cases e);have bK:Hid (SamS w9 x1 z1 m):=AW hm aE.out (iC cj aw (fun _ e=>by cases e));have bJ:Hid (SamR w9 y1 r1 q):=by
  have h1:=aF.out;have h2:=iC cg aw (fun _ e=>by cases e);rw [<-hq]at h1 h2;exact AV h1 h2
 clear aw bc hm hq cj cg aO bV bW bw bF;have bL:Hid (∀ u,w9.grownBy u none->u.cell? ⟨w.heap.size,0,none⟩=some (.slice R p.length S)/\(u.cell? ⟨N.heap.size,0,none⟩=some (.int .i64 k)/\u.cell? ⟨N.heap.size,1,none⟩=some (.int .i64 t)/\u.cell? ⟨N.heap.size,2,none⟩=some (.int .i64 a)/\u.cell? ⟨N.heap.size,3,none⟩=some (.slice x1 m x3)/\u.cell? ⟨N.heap.size,4,none⟩=some (.int .i64 P)/\u.cell? ⟨N.heap.size,5,none⟩=some (.int .i64 v1)/\u.cell? ⟨N.heap.size,6,none⟩=some (.int .i64 v2)/\u.cell? ⟨N.heap.size,7,none⟩=some (.int .i64 v3)/\u.cell? ⟨N.heap.size,8,none⟩=some (.slice y1 q y3))/\(u.cell? ⟨O.heap.size,0,none⟩=some (.int .i64 k)/\u.cell? ⟨O.heap.size,1,none⟩=some (.int .i64 t)/\u.cell? ⟨O.heap.size,2,none⟩=some (.int .i64 a)/\u.cell? ⟨O.heap.size,3,none⟩=some (.slice z1 m z3)/\u.cell? ⟨O.heap.size,4,none⟩=some (.int .i64 P)/\u.cell? ⟨O.heap.size,5,none⟩=some (.int .i64 v1)/\u.cell? ⟨O.heap.size,6,none⟩=some (.int .i64 v2)/\u.cell? ⟨O.heap.size,7,none⟩=some (.int .i64 v3)/\u.cell? ⟨O.heap.size,8,none⟩=some (.slice r1 q r3))):=fun u hu=>by
  have ka:u.heap[N.heap.size]?=some (.cells #[.int .i64 k,.int .i64 t,.int .i64 a,.slice x1 m x3,.int .i64 P,.int .i64 v1,.int .i64 v2,.int .i64 v3,.slice y1 q y3] 31 (0,0)):=by rw [hu.block _ (Array.getElem?_eq_some_iff.1 aN.out).1 (by simp)];exact aN.out
  have kb:u.heap[O.heap.size]?=some (.cells #[.int .i64 k,.int .i64 t,.int .i64 a,.slice z1 m z3,.int .i64 P,.int .i64 v1,.int .i64 v2,.int .i64 v3,.slice r1 q r3] 31 (0,0)):=by rw [hu.block _ (Array.getElem?_eq_some_iff.1 aP.out).1 (by simp)];exact aP.out
  obtain⟨p0,p1,p2,p3,p4,p5,p6,p7,p8,_⟩:=jl ka;obtain⟨q0,q1,q2,q3,q4,q5,q6,q7,q8,_⟩:=jl kb;exact⟨ip (il U.out hu) _ _ aS.out,⟨p0,p1,p2,p3,p4,p5,p6,p7,p8⟩,⟨q0,q1,q2,q3,q4,q5,q6,q7,q8⟩⟩
 have cE:Hid (∀ u,w9.grownBy u none->Calls Tryz.prog 24 #[.agg #[.slice R p.length S]] u fun e w'=>e= .returned (.int .i64 cn)/\u.grownBy w' none):=fun u hu=>by
  rw [bt.out];exact kd p _ u (HP.out.pres (ip (il ap.out (il U.out hu)))) (by omega) aX.out
 have cs:Hid (∀ u,w9.grownBy u none->Hz B u b T n f7 K/\W.grownBy u none/\u.ownsRow B 76 2 (.slice x1 m x3) m (flatS (stpL p s))/\u.ownsRow B 28 4 (.slice y1 q y3) q (regsF (rgsN p s) (runS p s).st)/\SamS u x1 z1 m/\SamR u y1 r1 q):=fun u hu=>
  ⟨⟨a3.out.1.grown (il U.out hu),a3.out.2⟩,il ap.out (il U.out hu),iK (iC aE.out hu (fun _ e=>by cases e)) bu.out,iK (iC aF.out hu (fun _ e=>by cases e)) bu.out,bK.out.pres (ip hu),bJ.out.pres (ip hu)⟩
 have bE:Hid (m<=500/\q<=4):=⟨by rw [aV.out.1];exact A9 p s,by rw [aV.out.2];exact AQ p s⟩;have cy:Hid (∀ g,((Value.slice x1 m x3).ownBlock=some g\/(Value.slice y1 q y3).ownBlock=some g)->w.heap.size<=g):=fun g e=>by
  have h4:=bv.out.size;rcases e with e | e
  ·have:=iA aE.out g e;omega
  ·have:=iA aF.out g e;omega
 have cP:=bL.out w9.drew (iy (ir _ _));clear aE aF bK bJ aN aP a3 aS bt aV;refine iz (fun u=>u.cell? ⟨w.heap.size,0,none⟩=some (.slice R p.length S)/\(u.cell? ⟨N.heap.size,0,none⟩=some (.int .i64 k)/\u.cell? ⟨N.heap.size,1,none⟩=some (.int .i64 t)/\u.cell? ⟨N.heap.size,2,none⟩=some (.int .i64 a)/\u.cell? ⟨N.heap.size,3,none⟩=some (.slice x1 m x3)/\u.cell? ⟨N.heap.size,4,none⟩=some (.int .i64 P)/\u.cell? ⟨N.heap.size,5,none⟩=some (.int .i64 v1)/\u.cell? ⟨N.heap.size,6,none⟩=some (.int .i64 v2)/\u.cell? ⟨N.heap.size,7,none⟩=some (.int .i64 v3)/\u.cell? ⟨N.heap.size,8,none⟩=some (.slice y1 q y3))/\(u.cell? ⟨O.heap.size,0,none⟩=some (.int .i64 k)/\u.cell? ⟨O.heap.size,1,none⟩=some (.int .i64 t)/\u.cell? ⟨O.heap.size,2,none⟩=some (.int .i64 a)/\u.cell? ⟨O.heap.size,3,none⟩=some (.slice z1 m z3)/\u.cell? ⟨O.heap.size,4,none⟩=some (.int .i64 P)/\u.cell? ⟨O.heap.size,5,none⟩=some (.int .i64 v1)/\u.cell? ⟨O.heap.size,6,none⟩=some (.int .i64 v2)/\u.cell? ⟨O.heap.size,7,none⟩=some (.int .i64 v3)/\u.cell? ⟨O.heap.size,8,none⟩=some (.slice r1 q r3))) 46 (by kernel_rfl) (by kernel_rfl) cP ?_;intro ag;refine ie 0 ?v1 rfl (by kernel_rfl) (fun _ _ _ h=>h) (by kernel_rfl) ?y1 ag ?_
 case y1=>(rintro u ⟨M,⟨r,v,x,y,z,A,C,D,E⟩,⟨F,l,G,o,H,I,d,J,L⟩⟩;go_simp;try rfl)
 simp only [Act.put,List.setIfInBounds_toArray];refine ie 1 ?v2 rfl (by kernel_rfl) (fun _ _ _ h=>h) (by kernel_rfl) ?y2 ag ?_
 case y2=>(rintro u ⟨M,⟨r,v,x,y,z,A,C,D,E⟩,⟨F,l,G,o,H,I,d,J,L⟩⟩;go_simp;try rfl)
 simp only [Act.put];refine ie 2 ?v3 rfl (by kernel_rfl) (fun _ _ _ h=>h) (by kernel_rfl) ?y3 ag ?_
 case y3=>(rintro u ⟨M,⟨r,v,x,y,z,A,C,D,E⟩,⟨F,l,G,o,H,I,d,J,L⟩⟩;go_simp;try rfl)
 simp only [Act.put];refine ie 4 ?v4 rfl (by kernel_rfl) (fun _ _ _ h=>h) (by kernel_rfl) ?y4 ag ?_
 case y4=>(rintro u ⟨M,⟨r,v,x,y,z,A,C,D,E⟩,⟨F,l,G,o,H,I,d,J,L⟩⟩;go_simp;try rfl)
 simp only [Act.put];refine iu (i:=3) rfl (by kernel_rfl) (by kernel_rfl) (by kernel_rfl) ?_;intro K3 b3;have bA:=ij b3;clear b3;go_simp;refine(nu _ _).mono ?_;rintro e wA ⟨rfl,cV⟩;obtain rfl:=cV.symm;refine bA.out _ _ ag ?_;clear bA;try simp only [Act.put,List.setIfInBounds_toArray]
 refine iu (i:=5) rfl (by kernel_rfl) (by kernel_rfl) (by kernel_rfl) ?_;intro K5 b4;have bB:=ij b4;clear b4;go_simp;refine(cE.out _ (iy (ir _ _))).mono ?_;rintro e bl ⟨rfl,b7⟩;have aT:Hid (w9.grownBy bl none):=pw b7;have j:=bL.out bl aT.out;clear b7;refine bB.out _ _ j ?_;clear bB;try simp only [Act.put,List.setIfInBounds_toArray]
 refine ie 6 ?v5 rfl (by kernel_rfl) (fun _ _ _ h=>h) (by kernel_rfl) ?y5 j ?_
 case y5=>(rintro u ⟨M,⟨r,v,x,y,z,A,C,D,E⟩,⟨F,l,G,o,H,I,d,J,L⟩⟩;go_simp;try rfl)
 simp only [Act.put,List.setIfInBounds_toArray];refine ie 7 ?v6 rfl (by kernel_rfl) (fun _ _ _ h=>h) (by kernel_rfl) ?y6 j ?_
 case y6=>(rintro u ⟨M,⟨r,v,x,y,z,A,C,D,E⟩,⟨F,l,G,o,H,I,d,J,L⟩⟩;go_simp;try rfl)
 simp only [Act.put];refine ie 8 ?v7 rfl (by kernel_rfl) (fun _ _ _ h=>h) (by kernel_rfl) ?y7 j ?_
 case y7=>(rintro u ⟨M,⟨r,v,x,y,z,A,C,D,E⟩,⟨F,l,G,o,H,I,d,J,L⟩⟩;go_simp;try rfl)
 simp only [Act.put];refine ie 9 ?v8 rfl (by kernel_rfl) (fun _ _ _ h=>h) (by kernel_rfl) ?y8 j ?_
 case y8=>(rintro u ⟨M,⟨r,v,x,y,z,A,C,D,E⟩,⟨F,l,G,o,H,I,d,J,L⟩⟩;go_simp;try rfl)
 simp only [Act.put];refine ie 11 ?v9 rfl (by kernel_rfl) (fun _ _ _ h=>h) (by kernel_rfl) ?y9 j ?_
 case y9=>(rintro u ⟨M,⟨r,v,x,y,z,A,C,D,E⟩,⟨F,l,G,o,H,I,d,J,L⟩⟩;go_simp;try rfl)
 simp only [Act.put];refine iu (i:=10) rfl (by kernel_rfl) (by kernel_rfl) (by kernel_rfl) ?_;intro K10 b2;have bz:=ij b2;clear b2;go_simp;refine(nu _ _).mono ?_;rintro e wB ⟨rfl,cW⟩;obtain rfl:=cW.symm;refine bz.out _ _ j ?_;clear bz;try simp only [Act.put,List.setIfInBounds_toArray]
 refine ie 12 ?v10 rfl (by kernel_rfl) (fun _ _ _ h=>h) (by kernel_rfl) ?y10 j ?_
 case y10=>(rintro u ⟨M,⟨r,v,x,y,z,A,C,D,E⟩,⟨F,l,G,o,H,I,d,J,L⟩⟩;go_simp;try rfl)
 simp only [Act.put,List.setIfInBounds_toArray];refine ie 13 ?v11 rfl (by kernel_rfl) (fun _ _ _ h=>h) (by kernel_rfl) ?y11 j ?_
 case y11=>(rintro u ⟨M,⟨r,v,x,y,z,A,C,D,E⟩,⟨F,l,G,o,H,I,d,J,L⟩⟩;go_simp;try rfl)
 simp only [Act.put];refine ie 14 ?v12 rfl (by kernel_rfl) (fun _ _ _ h=>h) (by kernel_rfl) ?y12 j ?_
 case y12=>(rintro u ⟨M,⟨r,v,x,y,z,A,C,D,E⟩,⟨F,l,G,o,H,I,d,J,L⟩⟩;go_simp;try rfl)
 simp only [Act.put];refine ie 15 ?v13 rfl (by kernel_rfl) (fun _ _ _ h=>h) (by kernel_rfl) ?y13 j ?_
 case y13=>(rintro u ⟨M,⟨r,v,x,y,z,A,C,D,E⟩,⟨F,l,G,o,H,I,d,J,L⟩⟩;go_simp;try rfl)
 simp only [Act.put];refine ie 16 ?v14 rfl (by kernel_rfl) (fun _ _ _ h=>h) (by kernel_rfl) ?y14 j ?_
 case y14=>(rintro u ⟨M,⟨r,v,x,y,z,A,C,D,E⟩,⟨F,l,G,o,H,I,d,J,L⟩⟩;go_simp;try rfl)
 simp only [Act.put];refine ie 17 ?v15 rfl (by kernel_rfl) (fun _ _ _ h=>h) (by kernel_rfl) ?y15 j ?_
 case y15=>(rintro u ⟨M,⟨r,v,x,y,z,A,C,D,E⟩,⟨F,l,G,o,H,I,d,J,L⟩⟩;go_simp;try rfl)
 simp only [Act.put];refine ie 18 ?v16 rfl (by kernel_rfl) (fun _ _ _ h=>h) (by kernel_rfl) ?y16 j ?_
 case y16=>(rintro u ⟨M,⟨r,v,x,y,z,A,C,D,E⟩,⟨F,l,G,o,H,I,d,J,L⟩⟩;go_simp;try rfl)
 simp only [Act.put];refine ie 19 ?v17 rfl (by kernel_rfl) (fun _ _ _ h=>h) (by kernel_rfl) ?y17 j ?_
 case y17=>(rintro u ⟨M,⟨r,v,x,y,z,A,C,D,E⟩,⟨F,l,G,o,H,I,d,J,L⟩⟩;go_simp;try rfl)
 simp only [Act.put];refine ie 20 ?v18 rfl (by kernel_rfl) (fun _ _ _ h=>h) (by kernel_rfl) ?y18 j ?_
 case y18=>(rintro u ⟨M,⟨r,v,x,y,z,A,C,D,E⟩,⟨F,l,G,o,H,I,d,J,L⟩⟩;go_simp;try rfl)
 simp only [Act.put];refine ie 21 ?v19 rfl (by kernel_rfl) (fun _ _ _ h=>h) (by kernel_rfl) ?y19 j ?_
 case y19=>(rintro u ⟨M,⟨r,v,x,y,z,A,C,D,E⟩,⟨F,l,G,o,H,I,d,J,L⟩⟩;go_simp;try rfl)
 simp only [Act.put];refine ie 22 ?v20 rfl (by kernel_rfl) (fun _ _ _ h=>h) (by kernel_rfl) ?y20 j ?_
 case y20=>(rintro u ⟨M,⟨r,v,x,y,z,A,C,D,E⟩,⟨F,l,G,o,H,I,d,J,L⟩⟩;go_simp;try rfl)
 simp only [Act.put];refine ie 23 ?v21 rfl (by kernel_rfl) (fun _ _ _ h=>h) (by kernel_rfl) ?y21 j ?_
 case y21=>(rintro u ⟨M,⟨r,v,x,y,z,A,C,D,E⟩,⟨F,l,G,o,H,I,d,J,L⟩⟩;go_simp;try rfl)
 simp only [Act.put];refine ie 24 ?v22 rfl (by kernel_rfl) (fun _ _ _ h=>h) (by kernel_rfl) ?y22 j ?_
 case y22=>(rintro u ⟨M,⟨r,v,x,y,z,A,C,D,E⟩,⟨F,l,G,o,H,I,d,J,L⟩⟩;go_simp;try rfl)
 simp only [Act.put];refine ie 25 ?v23 rfl (by kernel_rfl) (fun _ _ _ h=>h) (by kernel_rfl) ?y23 j ?_
 case y23=>(rintro u ⟨M,⟨r,v,x,y,z,A,C,D,E⟩,⟨F,l,G,o,H,I,d,J,L⟩⟩;go_simp;try rfl)
 simp only [Act.put];refine ie 26 ?v24 rfl (by kernel_rfl) (fun _ _ _ h=>h) (by kernel_rfl) ?y24 j ?_
 case y24=>(rintro u ⟨M,⟨r,v,x,y,z,A,C,D,E⟩,⟨F,l,G,o,H,I,d,J,L⟩⟩;go_simp;try rfl)
 simp only [Act.put];refine ie 27 ?v25 rfl (by kernel_rfl) (fun _ _ _ h=>h) (by kernel_rfl) ?y25 j ?_
 case y25=>(rintro u ⟨M,⟨r,v,x,y,z,A,C,D,E⟩,⟨F,l,G,o,H,I,d,J,L⟩⟩;go_simp;try rfl)
 simp only [Act.put];refine ie 28 ?v26 rfl (by kernel_rfl) (fun _ _ _ h=>h) (by kernel_rfl) ?y26 j ?_
 case y26=>(rintro u ⟨M,⟨r,v,x,y,z,A,C,D,E⟩,⟨F,l,G,o,H,I,d,J,L⟩⟩;go_simp;try rfl)
 simp only [Act.put];refine ie 29 ?v27 rfl (by kernel_rfl) (fun _ _ _ h=>h) (by kernel_rfl) ?y27 j ?_
 case y27=>(rintro u ⟨M,⟨r,v,x,y,z,A,C,D,E⟩,⟨F,l,G,o,H,I,d,J,L⟩⟩;go_simp;try rfl)
 simp only [Act.put];refine ie 30 ?v28 rfl (by kernel_rfl) (fun _ _ _ h=>h) (by kernel_rfl) ?y28 j ?_
 case y28=>(rintro u ⟨M,⟨r,v,x,y,z,A,C,D,E⟩,⟨F,l,G,o,H,I,d,J,L⟩⟩;go_simp;try rfl)
 simp only [Act.put];refine ie 31 ?v29 rfl (by kernel_rfl) (fun _ _ _ h=>h) (by kernel_rfl) ?y29 j ?_
 case y29=>(rintro u ⟨M,⟨r,v,x,y,z,A,C,D,E⟩,⟨F,l,G,o,H,I,d,J,L⟩⟩;go_simp;try rfl)
 simp only [Act.put];refine ie 32 ?v30 rfl (by kernel_rfl) (fun _ _ _ h=>h) (by kernel_rfl) ?y30 j ?_
 case y30=>(rintro u ⟨M,⟨r,v,x,y,z,A,C,D,E⟩,⟨F,l,G,o,H,I,d,J,L⟩⟩;go_simp;try rfl)
 simp only [Act.put];refine ie 33 ?v31 rfl (by kernel_rfl) (fun _ _ _ h=>h) (by kernel_rfl) ?y31 j ?_
 case y31=>(rintro u ⟨M,⟨r,v,x,y,z,A,C,D,E⟩,⟨F,l,G,o,H,I,d,J,L⟩⟩;go_simp;try rfl)
 simp only [Act.put];refine ie 34 ?v32 rfl (by kernel_rfl) (fun _ _ _ h=>h) (by kernel_rfl) ?y32 j ?_
 case y32=>(rintro u ⟨M,⟨r,v,x,y,z,A,C,D,E⟩,⟨F,l,G,o,H,I,d,J,L⟩⟩;go_simp;try rfl)
 simp only [Act.put];refine ie 35 ?v33 rfl (by kernel_rfl) (fun _ _ _ h=>h) (by kernel_rfl) ?y33 j ?_
 case y33=>(rintro u ⟨M,⟨r,v,x,y,z,A,C,D,E⟩,⟨F,l,G,o,H,I,d,J,L⟩⟩;go_simp;try rfl)
 simp only [Act.put];refine ie 36 ?v34 rfl (by kernel_rfl) (fun _ _ _ h=>h) (by kernel_rfl) ?y34 j ?_
 case y34=>(rintro u ⟨M,⟨r,v,x,y,z,A,C,D,E⟩,⟨F,l,G,o,H,I,d,J,L⟩⟩;go_simp;try rfl)
 simp only [Act.put];refine ie 37 ?v35 rfl (by kernel_rfl) (fun _ _ _ h=>h) (by kernel_rfl) ?y35 j ?_
 case y35=>(rintro u ⟨M,⟨r,v,x,y,z,A,C,D,E⟩,⟨F,l,G,o,H,I,d,J,L⟩⟩;go_simp;try rfl)
 simp only [Act.put];refine ie 38 ?v36 rfl (by kernel_rfl) (fun _ _ _ h=>h) (by kernel_rfl) ?y36 j ?_
 case y36=>(rintro u ⟨M,⟨r,v,x,y,z,A,C,D,E⟩,⟨F,l,G,o,H,I,d,J,L⟩⟩;go_simp;try rfl)
 simp only [Act.put];refine ie 39 ?v37 rfl (by kernel_rfl) (fun _ _ _ h=>h) (by kernel_rfl) ?y37 j ?_
 case y37=>(rintro u ⟨M,⟨r,v,x,y,z,A,C,D,E⟩,⟨F,l,G,o,H,I,d,J,L⟩⟩;go_simp;try rfl)
 simp only [Act.put];refine ie 40 ?v38 rfl (by kernel_rfl) (fun _ _ _ h=>h) (by kernel_rfl) ?y38 j ?_
 case y38=>(rintro u ⟨M,⟨r,v,x,y,z,A,C,D,E⟩,⟨F,l,G,o,H,I,d,J,L⟩⟩;go_simp;try rfl)
 simp only [Act.put];refine ie 41 ?v39 rfl (by kernel_rfl) (fun _ _ _ h=>h) (by kernel_rfl) ?y39 j ?_
 case y39=>(rintro u ⟨M,⟨r,v,x,y,z,A,C,D,E⟩,⟨F,l,G,o,H,I,d,J,L⟩⟩;go_simp;try rfl)
 simp only [Act.put];refine ie 42 ?v40 rfl (by kernel_rfl) (fun _ _ _ h=>h) (by kernel_rfl) ?y40 j ?_
 case y40=>(rintro u ⟨M,⟨r,v,x,y,z,A,C,D,E⟩,⟨F,l,G,o,H,I,d,J,L⟩⟩;go_simp;try rfl)
 simp only [Act.put];refine ie 43 ?v41 rfl (by kernel_rfl) (fun _ _ _ h=>h) (by kernel_rfl) ?y41 j ?_
 case y41=>(rintro u ⟨M,⟨r,v,x,y,z,A,C,D,E⟩,⟨F,l,G,o,H,I,d,J,L⟩⟩;go_simp;try rfl)
 simp only [Act.put];refine ie 44 ?v42 rfl (by kernel_rfl) (fun _ _ _ h=>h) (by kernel_rfl) ?y42 j ?_
 case y42=>(rintro u ⟨M,⟨r,v,x,y,z,A,C,D,E⟩,⟨F,l,G,o,H,I,d,J,L⟩⟩;go_simp;try rfl)
 simp only [Act.put];refine ie 45 ?v43 rfl (by kernel_rfl) (fun _ _ _ h=>h) (by kernel_rfl) ?y43 j ?_
 case y43=>(rintro u ⟨M,⟨r,v,x,y,z,A,C,D,E⟩,⟨F,l,G,o,H,I,d,J,L⟩⟩;go_simp;try rfl)
 simp only [Act.put];refine iF rfl (by kernel_rfl) (by kernel_rfl) (by kernel_rfl) ?_;go_simp;clear ag;refine ‹∀ a w,Code.wp Tryz.prog _ _ a w->_› _ _ ?_;obtain⟨z0,z2,dj,z4,z5,z6⟩:=cs.out bl aT.out;refine AP z0 z2 V dj z4 cG cH z5 z6 j.2.1.2.2.2.1 j.2.1.2.2.2.2.2.2.2.2 j.2.2.2.2.2.1 j.2.2.2.2.2.2.2.2.2.2 cD cC bE.out.1 bE.out.2 cR cS HK ?_;intro z0 z1 z2 z3 z4 z5 z7 z8 z9 z10 z11 z12 z13 z14 z15 z16 z17 z18 z19 z20 z21 z22 z23 z24 z25 z26 z27 z28 z29 z30 z31 z32 z33 z34 z35 z36 z37 z38 z39 z40 z41 z42 z43 z44 z45 z46 z47 z48 z49 z50 z51 z52 z53 z54 z55 z56 z57 z58 z59 z60 z61 z62 z63 z64 z65 z66 z67 z68 z69 z70 z71 z72 z73 z74 z75 z76 z77 z78 z79 z80 z81 z82 z83 z84 z85 z86 z87 z88 z89 z90 z91 z92 z93 z94 z95 z96 z97 z98 z99 z100 z101 z102 z103 z104 z105 z106 z107 z108 z109 z110 z111 z112 z113 z114 z115 z116 z117 z118 z119 z120 z121 z122 z123 z124 z125 z126 z127 z128 z129 z130 z131 z132 z133 z134 z135 z136 z137 z138 z139 z140 w' hh;have cz:=ij hh;clear hh;go_ret;obtain⟨di,f',K',q1,q2,q3,q4⟩:=cz.out;exact⟨rfl,di,f',K',q1,q2,q3,(cx.out.stepG (il U.out aT.out)).trans (q4.mono cy.out)⟩
end
section
open Go.RowKit
attribute [local go_sem] Go.World.cell?_alloc_some
def formOut(p:List (List Ins))(s:List Int):List Int:=if checkRunN p s=0 then formS p (runS p s) else []
theorem Formd.form{p:List (List Ins)}{s:List Int}{w w':World}{e:Ending}(h:Formd p s w e w'):
  w.grownBy w' none/\∃ v,e= .returned (.tuple #[v,.int .i64 (checkRunN p s)])/\w'.ownsRow w.heap.size 3 1 v (formOut p s).length (ints (formOut p s)):=by
 obtain⟨a,h⟩:=h;rcases h with ⟨h0,v,he,ho⟩ | ⟨h0,he⟩
 ·exact⟨a,v,by rw [h0];exact he,by unfold formOut;rw [if_pos h0];exact ho⟩
 ·exact⟨a,_,he,by unfold formOut;rw [if_neg h0];exact⟨rfl,Or.inl ⟨rfl,rfl⟩⟩⟩
theorem oH(p:List (List Ins))(s:List Int):(formOut p s).length<=500:=by
 unfold formOut;by_cases h:checkRunN p s=0
 ·rw [if_pos h];have a:vProg p=true/\s.length<=500:=by
   unfold checkRunN at h;by_cases a:vProg p=true
   ·by_cases c:s.length<=500
    ·exact⟨a,c⟩
    ·simp [a,c]at h
   ·simp [a]at h
  obtain⟨xs,d⟩:=kZ a.1 s;unfold formS;rw [kt,d.ev];have b:=kY p s;rw [d.st]at b;simp at b;omega
 ·rw [if_neg h];simp
theorem xZ(W:World)(B:Nat)(w:World)(b:Nat)(who:Nat->Role)(n:Int)(f:Nat->Value)(K:Nat->List (Value × Int))(pv sv:Value)(p:List (List Ins))(s:List Int)
  (h:Hz B w b who n f K) (hW:W.grownBy w none) (i:W.heap.size<=B) (hS:ShpAt W) (I:ProgAt W pv p) (hI:IntsAt W.heap.size W sv s) (ar:p.length<=5864062014634) (aq:∀ c∈p,c.length<=4398046510976) (bm:s.length<=17592186043904) (bl:0<=n) (hn1:n<=9000000000000) (hK:∀ c,c<5->(K c).length<=4900000000000):
  Calls Tryz.prog 7 #[pt b,pv,sv] w (HzF W B b (n+1) K w who):=by
 have HH:=ij h;have HW:=ij hW;have HS:=ij hS;have HP:=ij I;have X:=ij hI;have a9:=ij aq;have HK:=ij hK;obtain⟨t,u,rfl⟩:=I.form;obtain⟨so,sc,rfl⟩:=hI.form;have A:pt b= .pointer (some ⟨b,0,none⟩):=rfl;have aa:=ij (kz W B (w.alloc (.cells #[.slice t p.length u] 37)) b who n f K [] [] [] (.agg #[.slice t p.length u]) p (h.lx.grown (iq (ir _ _))) (iq hW) i I ar aq (by simpa using ar) (by simp));clear h hW hS I hI aq hK;rw [A]at aa ⊢;go_enter Tryz.func7,Tryz.ntmps7
 go_wp2_with fail
 refine aa.out.mono ?_;clear aa;rintro e l ⟨g,LC1,a0,f1,rfl,D,am,L,bk⟩;have aW:who w.heap.size= .other:=by
  by_cases e:who w.heap.size= .other
  ·exact e
  ·exact absurd (HH.out.1.1.dom _ e).2 (by omega)
 obtain⟨y,C⟩:=L.oth w.heap.size (by simp) aW (fun e=>e);have ad:Hid (W.grownBy l none):=L.base (iq HW.out) i (fun g e=>(HH.out.1.1.dom g e).1) (fun _ e=>e.elim);have a3:Hid (Fr w l who a0 (fun g=>w.heap.size<=g)):=(Fr.grown (iq (ir _ _))).step0 L;have c1:l.cell? ⟨w.heap.size,0,none⟩=some (.slice t p.length u):=by
  simp only [World.cell?,y,heap_alloc_new];rfl
 have aU:w.heap.size<l.heap.size:=World.block_lt_of_cell? l _ c1;have aT:LC1.length=p.length:=by rw [<-am];simp
 simp only [List.nil_append]at D;have ab:=ij (jP B l b a0 n f1 K [] LC1 [(g,p.length)] 0 (.slice so s.length sc) s D ((X.out.pres (ip ad.out)).mono ad.out.size) (kg D.hs i X.out) bm (by simp));have aI:=ij D;have a7:=ij am;have aH:=ij C;have aD:=ij aT;have aw:=ij c1;clear D am L bk y aW C aT c1;rw [A]at ab;go_wp2_with fail
 refine ab.out.mono ?_;clear ab;rintro e a ⟨gs,o,f2,rfl,j,M⟩;simp only [List.nil_append]at j;have ae:Hid (W.grownBy a none):=M.base ad.out i (fun g e=>(aI.out.hs.1.dom g e).1) (fun _ e=>e.elim);have ax:Hid (Fr w a who o (fun g=>w.heap.size<=g)):=a3.out.step0 M;obtain⟨y,C⟩:=M.oth w.heap.size aU aH.out (fun e=>e);have bf:=ij C;have R:Hid (a.cell? ⟨w.heap.size,0,none⟩=some (.slice t p.length u)):=by
  unfold Hid;rw [World.cell?_of_block y];exact aw.out
 have hlt2:w.heap.size<a.heap.size:=World.block_lt_of_cell? a _ R.out;have aQ:a.heap[g]?=some (.cells (lentRows LC1) 66 (0,0)):=by
  have:=(j.le.lr 0 (by simp)).1;simp only [List.getElem_cons_zero,List.take_zero,List.map_nil,List.sum_nil,List.drop_zero]at this;rw [List.take_of_length_le (by rw [aD.out];omega)]at this;exact this
 have aN:ProgAt a (.agg #[.slice (some ⟨g,0,none⟩) p.length (p.length+2)]) p:=ky (LC0:=[]) (by simpa using j.le) aQ a7.out _;have aL:IntsAt a.heap.size a (.slice (some ⟨gs,0,none⟩) s.length (s.length+2)) s:=jQ (j.le.li (gs,s,.slice so s.length sc) (by simp)).1;have ay:=ij (BD p s _ _ a (HS.out.pres (ip ae.out)) aN aL);have r:=ij j;clear j M y C aQ aN aL aI aw aH aU;go_wp2_with fail
 refine ay.out.mono ?_;clear ay;intro e w3 x;obtain⟨N,v,he,an⟩:=x.form;clear x;subst he;obtain⟨x1,x2,x3,rfl⟩:=iw an;have F:=ij an;have S:=ij N;have bc:Hid (W.grownBy w3 none):=il ae.out N;have P:=ij (m9 B w3 b o n f2 K _ _ _ (r.out.grown N) (by simp) (by rw [aD.out];omega) (by simp));clear an N;rw [A]at P;generalize aP:checkRunN p s=cr at*;have a1:=ij aP;clear aP;go_wp2_with fail
 refine P.out.mono ?_;clear P;rintro e m ⟨rfl,f4,aX,z⟩;have G:Hid (W.grownBy m none):=z.base bc.out i (fun g e=>(r.out.hs.1.dom g e).1) (fun _ e=>e.elim);have a4:Hid (Fr w m who o (fun g=>w.heap.size<=g)):=(ax.out.stepG S.out).step0 z;have J:∀ q,(Value.slice x1 x2 x3).ownBlock=some q->a.heap.size<=q/\q<w3.heap.size/\o q= .other:=fun q e=>by
  have h1:=iA F.out q e;refine⟨h1,iP F.out q e,?_⟩;by_cases ho:o q= .other
  ·exact ho
  ·exact absurd (r.out.hs.1.dom q ho).2 (by omega)
 have Q:=ij J;have aE:Hid (m.ownsRow a.heap.size 3 1 (.slice x1 x2 x3) (formOut p s).length (ints (formOut p s))):=iI F.out (fun q e=>(z.oth q (J q e).2.1 (J q e).2.2 (fun e=>e)).1);have c4:m.cell? ⟨w.heap.size,0,none⟩=some (.slice t p.length u):=by
  rw [World.cell?_of_block (z.oth w.heap.size (by have:=S.out.size;omega) bf.out (fun e=>e)).1];exact ip S.out _ _ R.out
 have af:=ij aX;have aG:=ij (wQ p s _ _ m (HP.out.pres (ip G.out)) ((X.out.pres (ip G.out)).mono G.out.size) ar a9.out);have a2:Hid (B<=a.heap.size):=by
  have:=r.out.low;unfold Hid;omega
 clear aX z J F r R;go_wp2_with fail
 refine aG.out.mono ?_;clear aG;intro e w5 x;obtain⟨al,v',he,ap⟩:=x.form;clear x;subst he;rw [a1.out];obtain⟨y1,y2,y3,rfl⟩:=iw ap;have a6:=ij al;have Z:Hid (w5.ownsRow a.heap.size 3 1 (.slice x1 x2 x3) (formOut p s).length (ints (formOut p s))):=iC aE.out al (fun _ e=>by cases e);have ac:=ij (pi (formOut p s) (formOut p s) _ _ w5 (iV Z.out) (iV ap) (by have:=oH p s;omega));rw [show (formOut p s==formOut p s)=true by simp]at ac;clear al ap aE c4;go_wp2_with fail
 refine ac.out.mono ?_;clear ac;rintro e w6 ⟨rfl,aR⟩;have az:Hid (w5.grownBy w6 none):=iH aR;have T:Hid (m.grownBy w6 none):=il a6.out az.out;have aF:Hid (w6.ownsRow B 3 1 (.slice x1 x2 x3) (formOut p s).length (ints (formOut p s))):=iK (iC Z.out az.out (fun _ e=>by cases e)) a2.out;have Y:=ij (lj B w6 b o n f4 K (.slice x1 x2 x3) (formOut p s).length _ (af.out.1.grown T.out) aF.out (fun q e=>(Q.out q e).2.2) bl (by omega) (by have:=HK.out 0 (by omega);omega) (by have:=oH p s;omega));clear aR Z aF;rw [A]at Y;go_wp2_with fail
 refine Y.out.mono ?_;clear Y;rintro e E ⟨⟨rv,rfl⟩,O,f7,H,ah,d⟩;have bd:Hid (W.grownBy w6 none):=il G.out T.out;have be:Hid (W.grownBy E none):=d.fr.base bd.out i (fun g e=>(af.out.1.1.dom g e).1) (fun q e=>by have:=(Q.out q e).1;have:=ae.out.size;omega);have a5:Hid (Fr w E who O (fun g=>w.heap.size<=g)):=(a4.out.stepG T.out).trans (d.fr.mono fun q e=>by have:=(Q.out q e).1;have:=ax.out.size;omega);have aJ:Hid (Hz B E b O (n+1) f7 H):=⟨ah,fun k hk=>by rw [d.lent k hk];exact af.out.2 k hk⟩;have aC:Hid (∀ c,c<5->(H c).length<=(K c).length+4):=fun c hc=>by
  by_cases e:c=0
  ·subst e;have:=d.len;omega
  ·rw [d.oth c e];omega
 have V:=ij (mK B E b O (n+1) f7 H ah (fun c hc=>by have:=aC.out c hc;have:=HK.out c hc;omega));clear ah d;rw [A]at V;go_wp2_with fail
 refine V.out.mono ?_;clear V;rintro e w8 ⟨rfl,aS⟩;have U:Hid (E.grownBy w8 none):=iH aS;clear aS;go_wp2_with (go_at_call 23;refine(nu _ _).mono ?_;rintro e w9 ⟨rfl,bn⟩;have bo:=bn.symm;subst bo)
 go_ret;exact⟨by simp,O,f7,H,⟨aJ.out.1.grown U.out,aJ.out.2⟩,il be.out U.out,aC.out,a5.out.stepG U.out⟩
def sameOut(p:List (List Ins))(a b:List Int):Bool:=if checkRunsN p [a,b]=0 then sameS p a b else false
theorem Samed.form{p:List (List Ins)}{a b:List Int}{w w':World}{e:Ending}(h:Samed p a b w e w'):
  w.grownBy w' none/\e= .returned (.tuple #[.bool (sameOut p a b),.int .i64 (checkRunsN p [a,b])]):=by
 obtain⟨c,h⟩:=h;rcases h with ⟨h0,he⟩ | ⟨h0,he⟩
 ·exact⟨c,by unfold sameOut;rw [if_pos h0,h0];exact he⟩
 ·exact⟨c,by unfold sameOut;rw [if_neg h0];exact he⟩
theorem tD(W:World)(B:Nat)(w:World)(b:Nat)(who:Nat->Role)(n:Int)(f:Nat->Value)(K:Nat->List (Value × Int))(pv sv tv:Value)(p:List (List Ins))(s t:List Int)
  (h:Hz B w b who n f K) (Z:W.grownBy w none) (q:W.heap.size<=B) (hS:ShpAt W) (I:ProgAt W pv p) (X:IntsAt W.heap.size W sv s) (Y:IntsAt w.heap.size w tv t) (aC:valOther who tv) (ad:p.length<=5864062014634) (ac:∀ c∈p,c.length<=4398046510976) (bc:s.length<=17592186043904) (bd:t.length<=17592186043904):
  Calls Tryz.prog 9 #[pt b,pv,sv,tv] w (HzE W B b n K w who):=by
 have HH:=ij h;have HW:=ij Z;have HS:=ij hS;have HP:=ij I;have R:=ij X;have HJ:=ij (And.intro Y aC);have a1:=ij ac;obtain⟨m,o,rfl⟩:=I.form;obtain⟨so,sc,rfl⟩:=X.form;obtain⟨ta,tc,rfl⟩:=Y.form;have L:pt b= .pointer (some ⟨b,0,none⟩):=rfl;have S:=ij (kz W B (w.alloc (.cells #[.slice m p.length o] 37)) b who n f K [] [] [] (.agg #[.slice m p.length o]) p (h.lx.grown (iq (ir _ _))) (iq Z) q I ad ac (by simpa using ad) (by simp));clear h Z hS I X Y aC ac;rw [L]at S ⊢;go_enter Tryz.func9,Tryz.ntmps9
 go_wp2_with fail
 refine S.out.mono ?_;clear S;rintro e r ⟨g,LC1,aS,f1,rfl,D,ab,y,bb⟩;have aN:who w.heap.size= .other:=by
  by_cases e:who w.heap.size= .other
  ·exact e
  ·exact absurd (HH.out.1.1.dom _ e).2 (by omega)
 obtain⟨d,i⟩:=y.oth w.heap.size (by simp) aN (fun e=>e);have T:Hid (W.grownBy r none):=y.base (iq HW.out) q (fun g e=>(HH.out.1.1.dom g e).1) (fun _ e=>e.elim);have aV:Hid (Fr w r who aS (fun g=>w.heap.size<=g)):=(Fr.grown (iq (ir _ _))).step0 y;have c1:r.cell? ⟨w.heap.size,0,none⟩=some (.slice m p.length o):=by
  simp only [World.cell?,d,heap_alloc_new];rfl
 have aK:w.heap.size<r.heap.size:=World.block_lt_of_cell? r _ c1;have aJ:LC1.length=p.length:=by rw [<-ab];simp
 simp only [List.nil_append]at D;have j:=ij (jP B r b aS n f1 K [] LC1 [(g,p.length)] 0 (.slice so s.length sc) s D ((R.out.pres (ip T.out)).mono T.out.size) (kg D.hs q R.out) bc (by simp));have an:=ij (kc HJ.out.1 HJ.out.2 ((Fr.grown (iq (ir _ _))).trans y));have ax:=ij D;have aZ:=ij ab;have av:=ij i;have aq:=ij aJ;have ai:=ij c1;clear D ab y bb d aN i aJ c1;rw [L]at j;go_wp2_with fail
 refine j.out.mono ?_;clear j;rintro e u ⟨V,aT,f2,rfl,M,z⟩;simp only [List.nil_append]at M;have a5:Hid (W.grownBy u none):=z.base T.out q (fun g e=>(ax.out.hs.1.dom g e).1) (fun _ e=>e.elim);have aW:Hid (Fr w u who aT (fun g=>w.heap.size<=g)):=aV.out.step0 z;obtain⟨d,i⟩:=z.oth w.heap.size aK av.out (fun e=>e);have aw:=ij i;have P:Hid (u.cell? ⟨w.heap.size,0,none⟩=some (.slice m p.length o)):=by
  unfold Hid;rw [World.cell?_of_block d];exact ai.out
 have aL:w.heap.size<u.heap.size:=World.block_lt_of_cell? u _ P.out;have G:=ij (kc an.out.1 an.out.2 z);have j:=ij (jP B u b aT n f2 K [(V,s,.slice so s.length sc)] LC1 [(g,p.length)] 0 (.slice ta t.length tc) t M G.out.1 G.out.2 bd (by simp));have ay:=ij M;clear M z d i ax ai av aK;rw [L]at j;go_wp2_with fail
 refine j.out.mono ?_;clear j;rintro e a ⟨gt,E,f3,rfl,k,A⟩;simp only [List.cons_append,List.nil_append]at k;have au:Hid (W.grownBy a none):=A.base a5.out q (fun g e=>(ay.out.hs.1.dom g e).1) (fun _ e=>e.elim);have aX:Hid (Fr w a who E (fun g=>w.heap.size<=g)):=aW.out.step0 A;obtain⟨d,i⟩:=A.oth w.heap.size aL aw.out (fun e=>e);have a7:=ij i;have Q:Hid (a.cell? ⟨w.heap.size,0,none⟩=some (.slice m p.length o)):=by
  unfold Hid;rw [World.cell?_of_block d];exact P.out
 have hlt3:w.heap.size<a.heap.size:=World.block_lt_of_cell? a _ Q.out;have aI:a.heap[g]?=some (.cells (lentRows LC1) 66 (0,0)):=by
  have:=(k.le.lr 0 (by simp)).1;simp only [List.getElem_cons_zero,List.take_zero,List.map_nil,List.sum_nil,List.drop_zero]at this;rw [List.take_of_length_le (by rw [aq.out];omega)]at this;exact this
 have aE:ProgAt a (.agg #[.slice (some ⟨g,0,none⟩) p.length (p.length+2)]) p:=ky (LC0:=[]) (by simpa using k.le) aI aZ.out _;have aB:IntsAt a.heap.size a (.slice (some ⟨V,0,none⟩) s.length (s.length+2)) s:=jQ (k.le.li (V,s,.slice so s.length sc) (by simp)).1;have aD:IntsAt a.heap.size a (.slice (some ⟨gt,0,none⟩) t.length (t.length+2)) t:=jQ (k.le.li (gt,t,.slice ta t.length tc) (by simp)).1;have ak:=ij (AX p s t _ _ _ a (HS.out.pres (ip au.out)) aE aB aD);have ap:=ij (kc G.out.1 G.out.2 A);have U:=ij k;clear k A d i aI aE aB aD ay P aw aL;go_wp2_with fail
 refine ak.out.mono ?_;clear ak;intro e w4 x;obtain⟨J,he⟩:=x.form;clear x;subst he;have F:=ij J;have a6:Hid (W.grownBy w4 none):=il au.out J;have O:=ij (m9 B w4 b E n f3 K _ _ _ (U.out.grown J) (by simp) (by rw [aq.out];omega) (by simp));clear J;rw [L]at O;generalize aG:checkRunsN p [s,t]=cr at*;generalize aM:sameOut p s t=zz at*;have aU:=ij aG;have a3:=ij aM;clear aG aM;go_wp2_with fail
 refine O.out.mono ?_;clear O;rintro e N ⟨rfl,f5,aO,C⟩;have v:Hid (W.grownBy N none):=C.base a6.out q (fun g e=>(U.out.hs.1.dom g e).1) (fun _ e=>e.elim);have aj:Hid (Fr w N who E (fun g=>w.heap.size<=g)):=(aX.out.stepG F.out).step0 C;have c5:N.cell? ⟨w.heap.size,0,none⟩=some (.slice m p.length o):=by
  rw [World.cell?_of_block (C.oth w.heap.size (by have:=F.out.size;omega) a7.out (fun e=>e)).1];exact ip F.out _ _ Q.out
 have aY:=ij (kc ap.out.1 ap.out.2 ((Fr.grown F.out).trans C));have H:=ij aO;have ar:=ij (wR p s t _ _ _ N (HP.out.pres (ip v.out)) ((R.out.pres (ip v.out)).mono v.out.size) aY.out.1 ad a1.out);clear aO C U Q;go_wp2_with fail
 refine ar.out.mono ?_;clear ar;intro e w6 x;obtain⟨aH,he⟩:=x.form;clear x;subst he;rw [aU.out,a3.out];have l:=ij aH;clear aH c5;cases zz
 ·go_wp2_with (go_at_call 23;refine(nu _ _).mono ?_;rintro e w9 ⟨rfl,ae⟩;have af:=ae.symm;subst af)
  go_ret;exact⟨by simp,E,f5,⟨H.out.1.grown l.out,H.out.2⟩,il v.out l.out,aj.out.stepG l.out⟩
 ·go_wp2_with (go_at_call 23;refine(nu _ _).mono ?_;rintro e w9 ⟨rfl,ae⟩;have af:=ae.symm;subst af)
  go_ret;exact⟨by simp,E,f5,⟨H.out.1.grown l.out,H.out.2⟩,il v.out l.out,aj.out.stepG l.out⟩
def shOut(p:List (List Ins))(s:List Int)(fuel:Int):List Int:=if checkRunN p s=0/\0<=fuel then (shortS p s fuel.toNat).1 else []
def shNum(p:List (List Ins))(s:List Int)(fuel:Int):Int:=if checkRunN p s=0/\0<=fuel then (((shortS p s fuel.toNat).2:Nat):Int) else 0
def shErr(p:List (List Ins))(s:List Int)(fuel:Int):Int:=if checkRunN p s=0 then (if 0<=fuel then 0 else 2) else checkRunN p s
theorem Shortened.form{p:List (List Ins)}{s:List Int}{fuel:Int}{w w':World}{e:Ending}(h:Shortened p s fuel w e w'):
  w.grownBy w' none/\∃ v,e= .returned (.tuple #[v,.int .i64 (shNum p s fuel),.int .i64 (shErr p s fuel)])/\w'.ownsRow w.heap.size 3 1 v (shOut p s fuel).length (ints (shOut p s fuel)):=by
 obtain⟨b,h⟩:=h;rcases h with ⟨h0,hf,v,he,ho⟩ | ⟨h0,hf,he⟩ | ⟨h0,he⟩
 ·refine⟨b,v,?_,?_⟩
  ·unfold shNum shErr;rw [if_pos ⟨h0,hf⟩,if_pos h0,if_pos hf];exact he
  ·unfold shOut;rw [if_pos ⟨h0,hf⟩];exact ho
 ·have a:¬(checkRunN p s=0/\0<=fuel):=by omega
  refine⟨b,.slice none 0 0,?_,?_⟩
  ·unfold shNum shErr;rw [if_neg a,if_pos h0,if_neg (by omega)];exact he
  ·unfold shOut;rw [if_neg a];exact⟨rfl,Or.inl ⟨rfl,rfl⟩⟩
 ·have a:¬(checkRunN p s=0/\0<=fuel):=fun e=>h0 e.1
  refine⟨b,.slice none 0 0,?_,?_⟩
  ·unfold shNum shErr;rw [if_neg a,if_neg h0];exact he
  ·unfold shOut;rw [if_neg a];exact⟨rfl,Or.inl ⟨rfl,rfl⟩⟩
theorem tf(p:List (List Ins))(s:List Int)(fuel:Int):(shOut p s fuel).length<=500:=by
 unfold shOut;by_cases h:checkRunN p s=0/\0<=fuel
 ·rw [if_pos h];have h5:=(ou h.1).2;unfold shortS;have h1:=rI (p:=p) (V:=runS p s) fuel.toNat (s.take (cameTo (runS p s))) 0 0;have h2:(s.take (cameTo (runS p s))).length<=s.length:=by simp;omega
  omega
 ·rw [if_neg h];simp
theorem ti(W:World)(B:Nat)(w:World)(b:Nat)(who:Nat->Role)(n:Int)(f:Nat->Value)(K:Nat->List (Value × Int))(pv sv:Value)(p:List (List Ins))(s:List Int)(fuel:Int)
  (h:Hz B w b who n f K) (hW:W.grownBy w none) (i:W.heap.size<=B) (hS:ShpAt W) (I:ProgAt W pv p) (hI:IntsAt W.heap.size W sv s) (aW:nilOk sv) (aQ:fuel<=9223372036854775807) (ar:p.length<=5864062014634) (aq:∀ c∈p,c.length<=4398046510976) (br:s.length<=17592186043904) (bq:0<=n) (hn1:n<=9000000000000) (hK:∀ c,c<5->(K c).length<=4900000000000):
  Calls Tryz.prog 8 #[pt b,pv,sv,.int .i64 fuel] w (HzF W B b (n+1) K w who):=by
 have HH:=ij h;have HW:=ij hW;have HS:=ij hS;have HP:=ij I;have X:=ij hI;have bb:=ij aW;have be:=ij aq;have HK:=ij hK;obtain⟨t,u,rfl⟩:=I.form;obtain⟨so,sc,rfl⟩:=hI.form;have A:pt b= .pointer (some ⟨b,0,none⟩):=rfl;have aa:=ij (kz W B (w.alloc (.cells #[.slice t p.length u] 37)) b who n f K [] [] [] (.agg #[.slice t p.length u]) p (h.lx.grown (iq (ir _ _))) (iq hW) i I ar aq (by simpa using ar) (by simp));clear h hW hS I hI aW aq hK;rw [A]at aa ⊢;go_enter Tryz.func8,Tryz.ntmps8
 go_wp2_with fail
 refine aa.out.mono ?_;clear aa;rintro e l ⟨g,LC1,a3,f1,rfl,D,am,L,bp⟩;have aZ:who w.heap.size= .other:=by
  by_cases e:who w.heap.size= .other
  ·exact e
  ·exact absurd (HH.out.1.1.dom _ e).2 (by omega)
 obtain⟨y,C⟩:=L.oth w.heap.size (by simp) aZ (fun e=>e);have ad:Hid (W.grownBy l none):=L.base (iq HW.out) i (fun g e=>(HH.out.1.1.dom g e).1) (fun _ e=>e.elim);have a6:Hid (Fr w l who a3 (fun g=>w.heap.size<=g)):=(Fr.grown (iq (ir _ _))).step0 L;have c1:l.cell? ⟨w.heap.size,0,none⟩=some (.slice t p.length u):=by
  simp only [World.cell?,y,heap_alloc_new];rfl
 have aV:w.heap.size<l.heap.size:=World.block_lt_of_cell? l _ c1;have aU:LC1.length=p.length:=by rw [<-am];simp
 simp only [List.nil_append]at D;have ab:=ij (jP B l b a3 n f1 K [] LC1 [(g,p.length)] 0 (.slice so s.length sc) s D ((X.out.pres (ip ad.out)).mono ad.out.size) (kg D.hs i X.out) br (by simp));have aI:=ij D;have ba:=ij am;have aH:=ij C;have aD:=ij aU;have aw:=ij c1;clear D am L bp y aZ C aU c1;rw [A]at ab;go_wp2_with fail
 refine ab.out.mono ?_;clear ab;rintro e a ⟨gs,o,f2,rfl,j,M⟩;simp only [List.nil_append]at j;have ae:Hid (W.grownBy a none):=M.base ad.out i (fun g e=>(aI.out.hs.1.dom g e).1) (fun _ e=>e.elim);have ax:Hid (Fr w a who o (fun g=>w.heap.size<=g)):=a6.out.step0 M;obtain⟨y,C⟩:=M.oth w.heap.size aV aH.out (fun e=>e);have bk:=ij C;have R:Hid (a.cell? ⟨w.heap.size,0,none⟩=some (.slice t p.length u)):=by
  unfold Hid;rw [World.cell?_of_block y];exact aw.out
 have hlt2:w.heap.size<a.heap.size:=World.block_lt_of_cell? a _ R.out;have aR:a.heap[g]?=some (.cells (lentRows LC1) 66 (0,0)):=by
  have:=(j.le.lr 0 (by simp)).1;simp only [List.getElem_cons_zero,List.take_zero,List.map_nil,List.sum_nil,List.drop_zero]at this;rw [List.take_of_length_le (by rw [aD.out];omega)]at this;exact this
 have aN:ProgAt a (.agg #[.slice (some ⟨g,0,none⟩) p.length (p.length+2)]) p:=ky (LC0:=[]) (by simpa using j.le) aR ba.out _;have aL:IntsAt a.heap.size a (.slice (some ⟨gs,0,none⟩) s.length (s.length+2)) s:=jQ (j.le.li (gs,s,.slice so s.length sc) (by simp)).1;have ay:=ij (wY p s _ _ fuel a (HS.out.pres (ip ae.out)) aN aL (fun _ _ e=>by simp at e) aQ);have r:=ij j;clear j M y C aR aN aL aI aw aH aV;go_wp2_with fail
 refine ay.out.mono ?_;clear ay;intro e w3 x;obtain⟨N,v,he,an⟩:=x.form;clear x;subst he;obtain⟨x1,x2,x3,rfl⟩:=iw an;have F:=ij an;have S:=ij N;have bh:Hid (W.grownBy w3 none):=il ae.out N;have P:=ij (m9 B w3 b o n f2 K _ _ _ (r.out.grown N) (by simp) (by rw [aD.out];omega) (by simp));clear an N;rw [A]at P;generalize aP:shErr p s fuel=cr at*;generalize aX:shNum p s fuel=nm at*;have a4:=ij aP;have bc:=ij aX;clear aP aX;go_wp2_with fail
 refine P.out.mono ?_;clear P;rintro e m ⟨rfl,f4,a0,z⟩;have G:Hid (W.grownBy m none):=z.base bh.out i (fun g e=>(r.out.hs.1.dom g e).1) (fun _ e=>e.elim);have a7:Hid (Fr w m who o (fun g=>w.heap.size<=g)):=(ax.out.stepG S.out).step0 z;have J:∀ q,(Value.slice x1 x2 x3).ownBlock=some q->a.heap.size<=q/\q<w3.heap.size/\o q= .other:=fun q e=>by
  have h1:=iA F.out q e;refine⟨h1,iP F.out q e,?_⟩;by_cases ho:o q= .other
  ·exact ho
  ·exact absurd (r.out.hs.1.dom q ho).2 (by omega)
 have Q:=ij J;have aE:Hid (m.ownsRow a.heap.size 3 1 (.slice x1 x2 x3) (shOut p s fuel).length (ints (shOut p s fuel))):=iI F.out (fun q e=>(z.oth q (J q e).2.1 (J q e).2.2 (fun e=>e)).1);have c4:m.cell? ⟨w.heap.size,0,none⟩=some (.slice t p.length u):=by
  rw [World.cell?_of_block (z.oth w.heap.size (by have:=S.out.size;omega) bk.out (fun e=>e)).1];exact ip S.out _ _ R.out
 have af:=ij a0;have aG:=ij (rG p s _ _ fuel m (HP.out.pres (ip G.out)) ((X.out.pres (ip G.out)).mono G.out.size) bb.out aQ ar be.out);have a5:Hid (B<=a.heap.size):=by
  have:=r.out.low;unfold Hid;omega
 clear a0 z J F r R;go_wp2_with fail
 refine aG.out.mono ?_;clear aG;intro e w5 x;obtain⟨al,v',he,ap⟩:=x.form;clear x;subst he;rw [a4.out,bc.out];obtain⟨y1,y2,y3,rfl⟩:=iw ap;have a9:=ij al;have Z:Hid (w5.ownsRow a.heap.size 3 1 (.slice x1 x2 x3) (shOut p s fuel).length (ints (shOut p s fuel))):=iC aE.out al (fun _ e=>by cases e);have ac:=ij (pi (shOut p s fuel) (shOut p s fuel) _ _ w5 (iV Z.out) (iV ap) (by have:=tf p s fuel;omega));rw [show (shOut p s fuel==shOut p s fuel)=true by simp]at ac;clear al ap aE c4;go_wp2_with fail
 refine ac.out.mono ?_;clear ac;rintro e w6 ⟨rfl,aS⟩;have az:Hid (w5.grownBy w6 none):=iH aS;have T:Hid (m.grownBy w6 none):=il a9.out az.out;have aF:Hid (w6.ownsRow B 3 1 (.slice x1 x2 x3) (shOut p s fuel).length (ints (shOut p s fuel))):=iK (iC Z.out az.out (fun _ e=>by cases e)) a5.out;have Y:=ij (lj B w6 b o n f4 K (.slice x1 x2 x3) (shOut p s fuel).length _ (af.out.1.grown T.out) aF.out (fun q e=>(Q.out q e).2.2) bq (by omega) (by have:=HK.out 0 (by omega);omega) (by have:=tf p s fuel;omega));clear aS Z aF;rw [A]at Y;go_wp2_with fail
 refine Y.out.mono ?_;clear Y;rintro e E ⟨⟨rv,rfl⟩,O,f7,H,ah,d⟩;have bi:Hid (W.grownBy w6 none):=il G.out T.out;have bj:Hid (W.grownBy E none):=d.fr.base bi.out i (fun g e=>(af.out.1.1.dom g e).1) (fun q e=>by have:=(Q.out q e).1;have:=ae.out.size;omega);have a8:Hid (Fr w E who O (fun g=>w.heap.size<=g)):=(a7.out.stepG T.out).trans (d.fr.mono fun q e=>by have:=(Q.out q e).1;have:=ax.out.size;omega);have aJ:Hid (Hz B E b O (n+1) f7 H):=⟨ah,fun k hk=>by rw [d.lent k hk];exact af.out.2 k hk⟩;have aC:Hid (∀ c,c<5->(H c).length<=(K c).length+4):=fun c hc=>by
  by_cases e:c=0
  ·subst e;have:=d.len;omega
  ·rw [d.oth c e];omega
 have V:=ij (mK B E b O (n+1) f7 H ah (fun c hc=>by have:=aC.out c hc;have:=HK.out c hc;omega));clear ah d;rw [A]at V;go_wp2_with fail
 refine V.out.mono ?_;clear V;rintro e w8 ⟨rfl,aT⟩;have U:Hid (E.grownBy w8 none):=iH aT;clear aT;go_wp2_with (go_at_call 23;refine(nu _ _).mono ?_;rintro e w9 ⟨rfl,bt⟩;have bu:=bt.symm;subst bu)
 go_ret;exact⟨by simp,O,f7,H,⟨aJ.out.1.grown U.out,aJ.out.2⟩,il bj.out U.out,aC.out,a8.out.stepG U.out⟩
end
end Go.Proofs.YtklenjmfalljgabGreatDoor
