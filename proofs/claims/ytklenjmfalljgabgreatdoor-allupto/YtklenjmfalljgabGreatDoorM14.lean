/- The texts Hgu Hgo Hgp Hgq. -/
import Derived.Test.YtklenjmfalljgabGreatDoorM06
import Derived.Test.YtklenjmfalljgabGreatDoorM11
import Derived.Test.YtklenjmfalljgabGreatDoorM13
namespace Go.Proofs.YtklenjmfalljgabGreatDoor
set_option maxRecDepth 100000
set_option maxHeartbeats 8000000
section
open Go.RowKit
attribute [local go_sem] Go.World.cell?_alloc_some se
theorem xY(W:World)(B:Nat)(w:World)(b:Nat)(who:Nat->Role)(n:Int)(f:Nat->Value)(K:Nat->List (Value × Int))(pv sv:Value)(p:List (List Ins))(s:List Int)
  (h:Hz B w b who n f K) (hW:W.grownBy w none) (ab:W.heap.size<=B) (hS:ShpAt W) (hP:ProgAt W pv p) (hI:IntsAt W.heap.size W sv s) (hpl:p.length<=2932031007300) (aU:∀ c∈p,c.length<=4398046510976) (cK:s.length<=17592186043904) (cT:0<=n) (cY:n<=9000000000000) (hK:∀ c,c<5->(K c).length<=4900000000000):
  Calls Tryz.prog 6 #[pt b,pv,sv] w (HzF W B b (n+2) K w who):=by
 have HH:=il h;have HW:=il hW;have HS:=il hS;have HP:=il hP;have HI:=il hI;have a6:=il aU;have HK:=il hK;obtain⟨S,R,rfl⟩:=hP.form;obtain⟨so,sc,rfl⟩:=hI.form;have aJ:pt b= .pointer (some ⟨b,0,none⟩):=rfl;have ad:=il (nh W B (w.alloc (.cells #[.slice S p.length R] 37)) b who n f K [] [] [] (.agg #[.slice S p.length R]) p (h.lx.grown (ir (iu _ _))) (ir hW) ab hP (by omega) aU (by simp;omega) (by simp));clear h hW hS hP hI aU hK;rw [aJ]at ad ⊢;go_enter Tryz.func6,Tryz.ntmps6
 go_wp2_with fail
 refine ad.out.mono ?_;clear ad;rintro e w1 ⟨g,LC1,ba,f1,rfl,aL,aP,aI,l⟩;have b3:who w.heap.size= .other:=by
  by_cases e:who w.heap.size= .other
  ·exact e
  ·exact absurd (HH.out.1.1.dom _ e).2 (by omega)
 obtain⟨aa,Y⟩:=aI.oth w.heap.size (by simp) b3 (fun e=>e);have bz:Hid (W.grownBy w1 none):=aI.base (ir HW.out) ab (fun g e=>(HH.out.1.1.dom g e).1) (fun _ e=>e.elim);have cZ:Hid (Fr w w1 who ba (fun g=>w.heap.size<=g)):=(Fr.grown (ir (iu _ _))).step0 aI;have c1:w1.cell? ⟨w.heap.size,0,none⟩=some (.slice S p.length R):=by
  simp only [World.cell?,aa,heap_alloc_new];rfl
 have bt:LC1.length=p.length:=by rw [<-aP];simp
 simp only [List.nil_append]at aL;have aq:ProgAt w1 (.agg #[.slice (some ⟨g,0,none⟩) p.length (p.length+2)]) p:=nf (LC0:=[]) (by simpa using aL.le) l aP _;have ce:=il (zJ p _ w1 (HS.out.pres (iq bz.out)) aq);have bp:=il aL;have bQ:=il Y;have aK:=il bt;have br:=il c1;clear aL aP aI l aa b3 Y bt aq c1;go_wp2_with fail
 refine ce.out.mono ?_;clear ce;rintro e w2 ⟨rfl,aw⟩;have bu:Hid (W.grownBy w2 none):=ip bz.out aw;have cQ:Hid (Fr w w2 who ba (fun g=>w.heap.size<=g)):=cZ.out.stepG aw;have a5:=il (bp.out.grown aw);have c2:=iq aw _ _ br.out;have bE:w.heap.size<w2.heap.size:=World.block_lt_of_cell? w2 _ c2;have ad:=il (nh W B w2 b ba n f1 K [] LC1 [(g,p.length)] (.agg #[.slice S p.length R]) p a5.out bu.out ab HP.out (by omega) a6.out (by rw [aK.out];omega) (by simp));have bJ:=il c2;obtain⟨cn,bg⟩:∃ cn,cn=jh p:=⟨_,rfl⟩;rw [<-bg];have bO:=il bg;clear aw bp br bg;rw [aJ]at ad;go_wp2_with fail
 refine ad.out.mono ?_;clear ad c2;rintro e w3 ⟨g3,a0,b1,f3,rfl,aC,aS,aE,o⟩;have a1:Hid (W.grownBy w3 none):=aE.base bu.out ab (fun g e=>(a5.out.hs.1.dom g e).1) (fun _ e=>e.elim);have cL:Hid (Fr w w3 who b1 (fun g=>w.heap.size<=g)):=cQ.out.step0 aE;obtain⟨aa,Y⟩:=aE.oth w.heap.size bE bQ.out (fun e=>e);have aW:Hid (w3.cell? ⟨w.heap.size,0,none⟩=some (.slice S p.length R)):=by
  unfold Hid;rw [World.cell?_of_block aa];exact bJ.out
 have cl:w.heap.size<w3.heap.size:=World.block_lt_of_cell? w3 _ aW.out;have b2:a0.length=p.length:=by rw [<-aS];simp
 simp only [List.singleton_append]at aC;have bb:=il (lT B w3 b b1 n f3 K [] (LC1++a0) [(g,p.length),(g3,p.length)] 0 (.slice so s.length sc) s aC ((HI.out.pres (iq a1.out)).mono a1.out.size) (my aC.hs ab HI.out) cK (by simp));have bU:=il aC;have cJ:=il aS;have bT:=il b2;have bN:=il Y;clear aC aS aE o aa Y b2 a5 bJ bQ;rw [aJ]at bb;go_wp2_with fail
 refine bb.out.mono ?_;clear bb;rintro e P ⟨gs,T,f4,rfl,aj,aH⟩;simp only [List.nil_append]at aj;have bv:Hid (W.grownBy P none):=aH.base a1.out ab (fun g e=>(bU.out.hs.1.dom g e).1) (fun _ e=>e.elim);have bB:Hid (Fr w P who T (fun g=>w.heap.size<=g)):=cL.out.step0 aH;obtain⟨aa,Y⟩:=aH.oth w.heap.size cl bN.out (fun e=>e);have cd:=il Y;have b8:Hid (P.cell? ⟨w.heap.size,0,none⟩=some (.slice S p.length R)):=by
  unfold Hid;rw [World.cell?_of_block aa];exact aW.out
 have cf:P.heap[g3]?=some (.cells (jC a0) 66 (0,0)):=by
  have:=(aj.le.lr 1 (by simp)).1;simp only [List.getElem_cons_succ,List.getElem_cons_zero,List.take_succ_cons,List.take_zero,List.map_cons,List.map_nil,List.sum_cons,List.sum_nil,Nat.add_zero]at this;rw [List.drop_append_of_le_length (by rw [aK.out];omega),List.drop_eq_nil_of_le (by rw [aK.out];omega),List.nil_append,List.take_of_length_le (by rw [bT.out];omega)]at this;exact this
 have aq:ProgAt P (.agg #[.slice (some ⟨g3,0,none⟩) p.length (p.length+2)]) p:=nf (LC0:=LC1) aj.le cf cJ.out _;have bP:IntsAt P.heap.size P (.slice (some ⟨gs,0,none⟩) s.length (s.length+2)) s:=ma (aj.le.li (gs,s,.slice so s.length sc) (by simp)).1;have ck:=il (wL p s _ _ P (HS.out.pres (iq bv.out)) aq bP);have az:=il aj;clear aj aH aa Y cf aq bP bU aW bN bE cl;go_wp2_with fail
 refine ck.out.mono ?_;clear ck;intro e N hR;obtain⟨bI,rv,c,he,hV⟩:=hR.form;clear hR;subst he;have HR:=il hV;obtain⟨k,t,a,Q,v1,v2,v3,x1,x3,y1,y3,m,q,cF,hx⟩:=hV;clear hx;subst cF;have aA:=il bI;clear bI;go_wp2_with fail
 have ah:N.grownBy (N.alloc (.cells #[.int .i64 k,.int .i64 t,.int .i64 a,.slice x1 m x3,.int .i64 Q,.int .i64 v1,.int .i64 v2,.int .i64 v3,.slice y1 q y3] 31)) none:=ir (iu _ _);have d:=heap_alloc_new N (.cells #[.int .i64 k,.int .i64 t,.int .i64 a,.slice x1 m x3,.int .i64 Q,.int .i64 v1,.int .i64 v2,.int .i64 v3,.slice y1 q y3] 31);generalize N.alloc (.cells #[.int .i64 k,.int .i64 t,.int .i64 a,.slice x1 m x3,.int .i64 Q,.int .i64 v1,.int .i64 v2,.int .i64 v3,.slice y1 q y3] 31)=w6 at ah d ⊢;have am:=il ah;have b7:=il d;have cc:Hid (N.heap.size<w6.heap.size):=(Array.getElem?_eq_some_iff.1 d).1;have cg:Hid (W.grownBy w6 none):=ip bv.out (ip aA.out ah);have cU:Hid (Fr w w6 who T (fun g=>w.heap.size<=g)):=bB.out.stepG (ip aA.out ah);have aN:=il (qL B w6 b T n f4 K _ _ _ (az.out.grown (ip aA.out ah)) (by simp) (by rw [List.length_append,aK.out,bT.out];omega) (by simp));rw [aJ]at aN;clear ah d;refine aN.out.mono ?_;clear aN;rintro e U ⟨rfl,f7,cm,ae⟩;have an:Hid (W.grownBy U none):=ae.base cg.out ab (fun g e=>(az.out.hs.1.dom g e).1) (fun _ e=>e.elim);have dh:Hid (Fr w U who T (fun g=>w.heap.size<=g)):=cU.out.step0 ae;have Z:∀ g,P.heap.size<=g->T g= .other:=fun g h1=>by
  by_cases e:T g= .other
  ·exact e
  ·exact absurd (az.out.hs.1.dom g e).2 (by omega)
 have HOT:=il Z;have bD:Hid (B<=P.heap.size):=by
  have:=az.out.low;unfold Hid;omega
 have a4:=aA.out.size;have aQ:Hid (U.heap[N.heap.size]?=some (.cells #[.int .i64 k,.int .i64 t,.int .i64 a,.slice x1 m x3,.int .i64 Q,.int .i64 v1,.int .i64 v2,.int .i64 v3,.slice y1 q y3] 31 (0,0))):=by
  unfold Hid;rw [(ae.oth N.heap.size cc.out (Z _ a4) (fun e=>e)).1];exact b7.out
 have aX:Hid (U.cell? ⟨w.heap.size,0,none⟩=some (.slice S p.length R)):=by
  have bV:=iq (ip aA.out am.out) _ _ b8.out;unfold Hid;rw [World.cell?_of_block (ae.oth w.heap.size (World.block_lt_of_cell? w6 _ bV) cd.out (fun e=>e)).1];exact bV
 obtain⟨hm,hq,ag,aB⟩:=HR.out.rows;have cp:Hid (U.ownsRow P.heap.size 76 2 (.slice x1 m x3) m (iS (rV p s))):=iN (iE ag am.out (fun _ e=>by cases e)) (fun g e=>(ae.oth g (Nat.lt_of_lt_of_le (i6 ag g e) am.out.size) (Z g (iB ag g e)) (fun e=>e)).1);have bH:Hid (U.ownsRow P.heap.size 28 4 (.slice y1 q y3) q (jq (rS p s) (iJ p s).st)):=iN (iE aB am.out (fun _ e=>by cases e)) (fun g e=>(ae.oth g (Nat.lt_of_lt_of_le (i6 aB g e) am.out.size) (Z g (iB aB g e)) (fun e=>e)).1);have dj:Hid ((Value.slice x1 m x3).ownBlock≠some N.heap.size):=fun e=>by have:=i6 ag _ e;omega
 have db:Hid (∀ g,(Value.slice x1 m x3).ownBlock=some g->T g= .other):=fun g e=>Z g (iB ag g e)
 have cz:Hid (∀ g,(Value.slice y1 q y3).ownBlock=some g->T g= .other):=fun g e=>Z g (iB aB g e)
 have bi:Hid (m=(rV p s).length/\q=rS p s):=⟨hm,hq⟩;have bd:=il cm;have bL:=il (wI p s _ _ U (HP.out.pres (iq an.out)) ((HI.out.pres (iq an.out)).mono an.out.size) (by omega) a6.out);have c7:=aX.out;have cC:Hid (T N.heap.size= .other):=Z _ a4;clear cm ae Z hm hq ag aB az b8 b7 cg cc am cd a4;go_wp2_with fail
 refine bL.out.mono ?_;clear bL c7;intro e O hR;obtain⟨cb,rv,c',he,hV⟩:=hR.form;clear hR;subst he;have b9:=il hV;obtain⟨cS,k2,t2,a2,u0,u1,u2,u3,e1,e2,e3,e4,m2,q2,z1,z3,V,r3,hA,hB⟩:=HR.out.same hV;clear hV;simp only [Value.agg.injEq,Array.mk.injEq,List.cons.injEq,Value.int.injEq,Value.slice.injEq,true_and,and_true]at hA;obtain⟨rfl,rfl,rfl,⟨rfl,rfl,rfl⟩,rfl,rfl,rfl,rfl,rfl,rfl,rfl⟩:=hA;subst hB cS;have bA:=il cb;clear cb HR;go_upto_region 5 with fail
 have ar:O.grownBy (O.alloc (.cells #[.int .i64 k,.int .i64 t,.int .i64 a,.slice z1 m z3,.int .i64 Q,.int .i64 v1,.int .i64 v2,.int .i64 v3,.slice V q r3] 31)) none:=ir (iu _ _);have bf:=heap_alloc_new O (.cells #[.int .i64 k,.int .i64 t,.int .i64 a,.slice z1 m z3,.int .i64 Q,.int .i64 v1,.int .i64 v2,.int .i64 v3,.slice V q r3] 31);generalize O.alloc (.cells #[.int .i64 k,.int .i64 t,.int .i64 a,.slice z1 m z3,.int .i64 Q,.int .i64 v1,.int .i64 v2,.int .i64 v3,.slice V q r3] 31)=w9 at ar bf ⊢;have X:Hid (U.grownBy w9 none):=ip bA.out ar;have a9:=il bf;have a7:Hid (w9.heap[N.heap.size]?=some (.cells #[.int .i64 k,.int .i64 t,.int .i64 a,.slice x1 m x3,.int .i64 Q,.int .i64 v1,.int .i64 v2,.int .i64 v3,.slice y1 q y3] 31 (0,0))):=by
  unfold Hid;rw [X.out.block _ (Array.getElem?_eq_some_iff.1 aQ.out).1 (by simp)];exact aQ.out
 obtain⟨hm,hq,ch,bM⟩:=b9.out.rows;have aF:Hid (w9.ownsRow P.heap.size 76 2 (.slice x1 m x3) m (iS (rV p s))):=iE cp.out X.out (fun _ e=>by cases e);have aD:Hid (w9.ownsRow P.heap.size 28 4 (.slice y1 q y3) q (jq (rS p s) (iJ p s).st)):=iE bH.out X.out (fun _ e=>by cases e);have bq:Hid (SamS w9 x1 z1 m):=E2 hm aF.out (iE ch ar (fun _ e=>by cases e));have b4:Hid (SamR w9 y1 V q):=by
  have h1:=aD.out;have h2:=iE bM ar (fun _ e=>by cases e);rw [<-hq]at h1 h2;exact Eu h1 h2
 clear ar bf hm hq ch bM aQ cp bH bA b9;have bR:Hid (∀ u,w9.grownBy u none->u.cell? ⟨w.heap.size,0,none⟩=some (.slice S p.length R)/\(u.cell? ⟨N.heap.size,0,none⟩=some (.int .i64 k)/\u.cell? ⟨N.heap.size,1,none⟩=some (.int .i64 t)/\u.cell? ⟨N.heap.size,2,none⟩=some (.int .i64 a)/\u.cell? ⟨N.heap.size,3,none⟩=some (.slice x1 m x3)/\u.cell? ⟨N.heap.size,4,none⟩=some (.int .i64 Q)/\u.cell? ⟨N.heap.size,5,none⟩=some (.int .i64 v1)/\u.cell? ⟨N.heap.size,6,none⟩=some (.int .i64 v2)/\u.cell? ⟨N.heap.size,7,none⟩=some (.int .i64 v3)/\u.cell? ⟨N.heap.size,8,none⟩=some (.slice y1 q y3))/\(u.cell? ⟨O.heap.size,0,none⟩=some (.int .i64 k)/\u.cell? ⟨O.heap.size,1,none⟩=some (.int .i64 t)/\u.cell? ⟨O.heap.size,2,none⟩=some (.int .i64 a)/\u.cell? ⟨O.heap.size,3,none⟩=some (.slice z1 m z3)/\u.cell? ⟨O.heap.size,4,none⟩=some (.int .i64 Q)/\u.cell? ⟨O.heap.size,5,none⟩=some (.int .i64 v1)/\u.cell? ⟨O.heap.size,6,none⟩=some (.int .i64 v2)/\u.cell? ⟨O.heap.size,7,none⟩=some (.int .i64 v3)/\u.cell? ⟨O.heap.size,8,none⟩=some (.slice V q r3))):=fun u hu=>by
  have ka:u.heap[N.heap.size]?=some (.cells #[.int .i64 k,.int .i64 t,.int .i64 a,.slice x1 m x3,.int .i64 Q,.int .i64 v1,.int .i64 v2,.int .i64 v3,.slice y1 q y3] 31 (0,0)):=by rw [hu.block _ (Array.getElem?_eq_some_iff.1 a7.out).1 (by simp)];exact a7.out
  have kb:u.heap[O.heap.size]?=some (.cells #[.int .i64 k,.int .i64 t,.int .i64 a,.slice z1 m z3,.int .i64 Q,.int .i64 v1,.int .i64 v2,.int .i64 v3,.slice V q r3] 31 (0,0)):=by rw [hu.block _ (Array.getElem?_eq_some_iff.1 a9.out).1 (by simp)];exact a9.out
  obtain⟨p0,p1,p2,p3,p4,p5,p6,p7,p8,_⟩:=kw ka;obtain⟨q0,q1,q2,q3,q4,q5,q6,q7,q8,_⟩:=kw kb;exact⟨iq (ip X.out hu) _ _ aX.out,⟨p0,p1,p2,p3,p4,p5,p6,p7,p8⟩,⟨q0,q1,q2,q3,q4,q5,q6,q7,q8⟩⟩
 have cu:Hid (∀ u,w9.grownBy u none->Calls Tryz.prog 24 #[.agg #[.slice S p.length R]] u fun e w'=>e= .returned (.int .i64 cn)/\u.grownBy w' none):=fun u hu=>by
  rw [bO.out];exact mD p _ u (HP.out.pres (iq (ip an.out (ip X.out hu)))) (by omega) a6.out
 have cX:Hid (∀ u,w9.grownBy u none->Hz B u b T n f7 K/\W.grownBy u none/\u.ownsRow B 76 2 (.slice x1 m x3) m (iS (rV p s))/\u.ownsRow B 28 4 (.slice y1 q y3) q (jq (rS p s) (iJ p s).st)/\SamS u x1 z1 m/\SamR u y1 V q):=fun u hu=>
  ⟨⟨bd.out.1.grown (ip X.out hu),bd.out.2⟩,ip an.out (ip X.out hu),iR (iE aF.out hu (fun _ e=>by cases e)) bD.out,iR (iE aD.out hu (fun _ e=>by cases e)) bD.out,bq.out.pres (iq hu),b4.out.pres (iq hu)⟩
 have bZ:Hid (m<=500/\q<=4):=⟨by rw [bi.out.1];exact Dq p s,by rw [bi.out.2];exact DL p s⟩;have de:Hid (∀ g,((Value.slice x1 m x3).ownBlock=some g\/(Value.slice y1 q y3).ownBlock=some g)->w.heap.size<=g):=fun g e=>by
  have h4:=bB.out.size;rcases e with e | e
  ·have:=iB aF.out g e;omega
  ·have:=iB aD.out g e;omega
 have cG:=bR.out w9.drew (iz (iu _ _));clear aF aD bq b4 a7 a9 bd aX bO bi;refine iA (fun u=>u.cell? ⟨w.heap.size,0,none⟩=some (.slice S p.length R)/\(u.cell? ⟨N.heap.size,0,none⟩=some (.int .i64 k)/\u.cell? ⟨N.heap.size,1,none⟩=some (.int .i64 t)/\u.cell? ⟨N.heap.size,2,none⟩=some (.int .i64 a)/\u.cell? ⟨N.heap.size,3,none⟩=some (.slice x1 m x3)/\u.cell? ⟨N.heap.size,4,none⟩=some (.int .i64 Q)/\u.cell? ⟨N.heap.size,5,none⟩=some (.int .i64 v1)/\u.cell? ⟨N.heap.size,6,none⟩=some (.int .i64 v2)/\u.cell? ⟨N.heap.size,7,none⟩=some (.int .i64 v3)/\u.cell? ⟨N.heap.size,8,none⟩=some (.slice y1 q y3))/\(u.cell? ⟨O.heap.size,0,none⟩=some (.int .i64 k)/\u.cell? ⟨O.heap.size,1,none⟩=some (.int .i64 t)/\u.cell? ⟨O.heap.size,2,none⟩=some (.int .i64 a)/\u.cell? ⟨O.heap.size,3,none⟩=some (.slice z1 m z3)/\u.cell? ⟨O.heap.size,4,none⟩=some (.int .i64 Q)/\u.cell? ⟨O.heap.size,5,none⟩=some (.int .i64 v1)/\u.cell? ⟨O.heap.size,6,none⟩=some (.int .i64 v2)/\u.cell? ⟨O.heap.size,7,none⟩=some (.int .i64 v3)/\u.cell? ⟨O.heap.size,8,none⟩=some (.slice V q r3))) 46 (by kernel_rfl) (by kernel_rfl) cG ?_;intro ak;refine ij 0 ?v1 rfl (by kernel_rfl) (fun _ _ _ h=>h) (by kernel_rfl) ?y1 ak ?_
 case y1=>(rintro u ⟨D,⟨J,r,G,F,E,v,z,M,A⟩,⟨C,l,y,o,L,H,d,x,I⟩⟩;go_simp;try rfl)
 simp only [Act.put,List.setIfInBounds_toArray];refine ij 1 ?v2 rfl (by kernel_rfl) (fun _ _ _ h=>h) (by kernel_rfl) ?y2 ak ?_
 case y2=>(rintro u ⟨D,⟨J,r,G,F,E,v,z,M,A⟩,⟨C,l,y,o,L,H,d,x,I⟩⟩;go_simp;try rfl)
 simp only [Act.put];refine ij 2 ?v3 rfl (by kernel_rfl) (fun _ _ _ h=>h) (by kernel_rfl) ?y3 ak ?_
 case y3=>(rintro u ⟨D,⟨J,r,G,F,E,v,z,M,A⟩,⟨C,l,y,o,L,H,d,x,I⟩⟩;go_simp;try rfl)
 simp only [Act.put];refine ij 4 ?v4 rfl (by kernel_rfl) (fun _ _ _ h=>h) (by kernel_rfl) ?y4 ak ?_
 case y4=>(rintro u ⟨D,⟨J,r,G,F,E,v,z,M,A⟩,⟨C,l,y,o,L,H,d,x,I⟩⟩;go_simp;try rfl)
 simp only [Act.put];refine iw (i:=3) rfl (by kernel_rfl) (by kernel_rfl) (by kernel_rfl) ?_;intro K3 cr;have bF:=il cr;clear cr;go_simp;refine(re _ _).mono ?_;rintro e wA ⟨rfl,c8⟩;obtain rfl:=c8.symm;refine bF.out _ _ ak ?_;clear bF;try simp only [Act.put,List.setIfInBounds_toArray]
 refine iw (i:=5) rfl (by kernel_rfl) (by kernel_rfl) (by kernel_rfl) ?_;intro K5 bG;have b6:=il bG;clear bG;go_simp;refine(cu.out _ (iz (iu _ _))).mono ?_;rintro e bk ⟨rfl,bW⟩;have bj:Hid (w9.grownBy bk none):=tP bW;have j:=bR.out bk bj.out;clear bW;refine b6.out _ _ j ?_;clear b6;try simp only [Act.put,List.setIfInBounds_toArray]
 refine ij 6 ?v5 rfl (by kernel_rfl) (fun _ _ _ h=>h) (by kernel_rfl) ?y5 j ?_
 case y5=>(rintro u ⟨D,⟨J,r,G,F,E,v,z,M,A⟩,⟨C,l,y,o,L,H,d,x,I⟩⟩;go_simp;try rfl)
 simp only [Act.put,List.setIfInBounds_toArray];refine ij 7 ?v6 rfl (by kernel_rfl) (fun _ _ _ h=>h) (by kernel_rfl) ?y6 j ?_
 case y6=>(rintro u ⟨D,⟨J,r,G,F,E,v,z,M,A⟩,⟨C,l,y,o,L,H,d,x,I⟩⟩;go_simp;try rfl)
 simp only [Act.put];refine ij 8 ?v7 rfl (by kernel_rfl) (fun _ _ _ h=>h) (by kernel_rfl) ?y7 j ?_
 case y7=>(rintro u ⟨D,⟨J,r,G,F,E,v,z,M,A⟩,⟨C,l,y,o,L,H,d,x,I⟩⟩;go_simp;try rfl)
 simp only [Act.put];refine ij 9 ?v8 rfl (by kernel_rfl) (fun _ _ _ h=>h) (by kernel_rfl) ?y8 j ?_
 case y8=>(rintro u ⟨D,⟨J,r,G,F,E,v,z,M,A⟩,⟨C,l,y,o,L,H,d,x,I⟩⟩;go_simp;try rfl)
 simp only [Act.put];refine ij 11 ?v9 rfl (by kernel_rfl) (fun _ _ _ h=>h) (by kernel_rfl) ?y9 j ?_
 case y9=>(rintro u ⟨D,⟨J,r,G,F,E,v,z,M,A⟩,⟨C,l,y,o,L,H,d,x,I⟩⟩;go_simp;try rfl)
 simp only [Act.put];refine iw (i:=10) rfl (by kernel_rfl) (by kernel_rfl) (by kernel_rfl) ?_;intro K10 cj;have bX:=il cj;clear cj;go_simp;refine(re _ _).mono ?_;rintro e wB ⟨rfl,df⟩;obtain rfl:=df.symm;refine bX.out _ _ j ?_;clear bX;try simp only [Act.put,List.setIfInBounds_toArray]
 refine ij 12 ?v10 rfl (by kernel_rfl) (fun _ _ _ h=>h) (by kernel_rfl) ?y10 j ?_
 case y10=>(rintro u ⟨D,⟨J,r,G,F,E,v,z,M,A⟩,⟨C,l,y,o,L,H,d,x,I⟩⟩;go_simp;try rfl)
 simp only [Act.put,List.setIfInBounds_toArray];refine ij 13 ?v11 rfl (by kernel_rfl) (fun _ _ _ h=>h) (by kernel_rfl) ?y11 j ?_
 case y11=>(rintro u ⟨D,⟨J,r,G,F,E,v,z,M,A⟩,⟨C,l,y,o,L,H,d,x,I⟩⟩;go_simp;try rfl)
 simp only [Act.put];refine ij 14 ?v12 rfl (by kernel_rfl) (fun _ _ _ h=>h) (by kernel_rfl) ?y12 j ?_
 case y12=>(rintro u ⟨D,⟨J,r,G,F,E,v,z,M,A⟩,⟨C,l,y,o,L,H,d,x,I⟩⟩;go_simp;try rfl)
 simp only [Act.put];refine ij 15 ?v13 rfl (by kernel_rfl) (fun _ _ _ h=>h) (by kernel_rfl) ?y13 j ?_
 case y13=>(rintro u ⟨D,⟨J,r,G,F,E,v,z,M,A⟩,⟨C,l,y,o,L,H,d,x,I⟩⟩;go_simp;try rfl)
 simp only [Act.put];refine ij 16 ?v14 rfl (by kernel_rfl) (fun _ _ _ h=>h) (by kernel_rfl) ?y14 j ?_
 case y14=>(rintro u ⟨D,⟨J,r,G,F,E,v,z,M,A⟩,⟨C,l,y,o,L,H,d,x,I⟩⟩;go_simp;try rfl)
 simp only [Act.put];refine ij 17 ?v15 rfl (by kernel_rfl) (fun _ _ _ h=>h) (by kernel_rfl) ?y15 j ?_
 case y15=>(rintro u ⟨D,⟨J,r,G,F,E,v,z,M,A⟩,⟨C,l,y,o,L,H,d,x,I⟩⟩;go_simp;try rfl)
 simp only [Act.put];refine ij 18 ?v16 rfl (by kernel_rfl) (fun _ _ _ h=>h) (by kernel_rfl) ?y16 j ?_
 case y16=>(rintro u ⟨D,⟨J,r,G,F,E,v,z,M,A⟩,⟨C,l,y,o,L,H,d,x,I⟩⟩;go_simp;try rfl)
 simp only [Act.put];refine ij 19 ?v17 rfl (by kernel_rfl) (fun _ _ _ h=>h) (by kernel_rfl) ?y17 j ?_
 case y17=>(rintro u ⟨D,⟨J,r,G,F,E,v,z,M,A⟩,⟨C,l,y,o,L,H,d,x,I⟩⟩;go_simp;try rfl)
 simp only [Act.put];refine ij 20 ?v18 rfl (by kernel_rfl) (fun _ _ _ h=>h) (by kernel_rfl) ?y18 j ?_
 case y18=>(rintro u ⟨D,⟨J,r,G,F,E,v,z,M,A⟩,⟨C,l,y,o,L,H,d,x,I⟩⟩;go_simp;try rfl)
 simp only [Act.put];refine ij 21 ?v19 rfl (by kernel_rfl) (fun _ _ _ h=>h) (by kernel_rfl) ?y19 j ?_
 case y19=>(rintro u ⟨D,⟨J,r,G,F,E,v,z,M,A⟩,⟨C,l,y,o,L,H,d,x,I⟩⟩;go_simp;try rfl)
 simp only [Act.put];refine ij 22 ?v20 rfl (by kernel_rfl) (fun _ _ _ h=>h) (by kernel_rfl) ?y20 j ?_
 case y20=>(rintro u ⟨D,⟨J,r,G,F,E,v,z,M,A⟩,⟨C,l,y,o,L,H,d,x,I⟩⟩;go_simp;try rfl)
 simp only [Act.put];refine ij 23 ?v21 rfl (by kernel_rfl) (fun _ _ _ h=>h) (by kernel_rfl) ?y21 j ?_
 case y21=>(rintro u ⟨D,⟨J,r,G,F,E,v,z,M,A⟩,⟨C,l,y,o,L,H,d,x,I⟩⟩;go_simp;try rfl)
 simp only [Act.put];refine ij 24 ?v22 rfl (by kernel_rfl) (fun _ _ _ h=>h) (by kernel_rfl) ?y22 j ?_
 case y22=>(rintro u ⟨D,⟨J,r,G,F,E,v,z,M,A⟩,⟨C,l,y,o,L,H,d,x,I⟩⟩;go_simp;try rfl)
 simp only [Act.put];refine ij 25 ?v23 rfl (by kernel_rfl) (fun _ _ _ h=>h) (by kernel_rfl) ?y23 j ?_
 case y23=>(rintro u ⟨D,⟨J,r,G,F,E,v,z,M,A⟩,⟨C,l,y,o,L,H,d,x,I⟩⟩;go_simp;try rfl)
 simp only [Act.put];refine ij 26 ?v24 rfl (by kernel_rfl) (fun _ _ _ h=>h) (by kernel_rfl) ?y24 j ?_
 case y24=>(rintro u ⟨D,⟨J,r,G,F,E,v,z,M,A⟩,⟨C,l,y,o,L,H,d,x,I⟩⟩;go_simp;try rfl)
 simp only [Act.put];refine ij 27 ?v25 rfl (by kernel_rfl) (fun _ _ _ h=>h) (by kernel_rfl) ?y25 j ?_
 case y25=>(rintro u ⟨D,⟨J,r,G,F,E,v,z,M,A⟩,⟨C,l,y,o,L,H,d,x,I⟩⟩;go_simp;try rfl)
 simp only [Act.put];refine ij 28 ?v26 rfl (by kernel_rfl) (fun _ _ _ h=>h) (by kernel_rfl) ?y26 j ?_
 case y26=>(rintro u ⟨D,⟨J,r,G,F,E,v,z,M,A⟩,⟨C,l,y,o,L,H,d,x,I⟩⟩;go_simp;try rfl)
 simp only [Act.put];refine ij 29 ?v27 rfl (by kernel_rfl) (fun _ _ _ h=>h) (by kernel_rfl) ?y27 j ?_
 case y27=>(rintro u ⟨D,⟨J,r,G,F,E,v,z,M,A⟩,⟨C,l,y,o,L,H,d,x,I⟩⟩;go_simp;try rfl)
 simp only [Act.put];refine ij 30 ?v28 rfl (by kernel_rfl) (fun _ _ _ h=>h) (by kernel_rfl) ?y28 j ?_
 case y28=>(rintro u ⟨D,⟨J,r,G,F,E,v,z,M,A⟩,⟨C,l,y,o,L,H,d,x,I⟩⟩;go_simp;try rfl)
 simp only [Act.put];refine ij 31 ?v29 rfl (by kernel_rfl) (fun _ _ _ h=>h) (by kernel_rfl) ?y29 j ?_
 case y29=>(rintro u ⟨D,⟨J,r,G,F,E,v,z,M,A⟩,⟨C,l,y,o,L,H,d,x,I⟩⟩;go_simp;try rfl)
 simp only [Act.put];refine ij 32 ?v30 rfl (by kernel_rfl) (fun _ _ _ h=>h) (by kernel_rfl) ?y30 j ?_
 case y30=>(rintro u ⟨D,⟨J,r,G,F,E,v,z,M,A⟩,⟨C,l,y,o,L,H,d,x,I⟩⟩;go_simp;try rfl)
 simp only [Act.put];refine ij 33 ?v31 rfl (by kernel_rfl) (fun _ _ _ h=>h) (by kernel_rfl) ?y31 j ?_
 case y31=>(rintro u ⟨D,⟨J,r,G,F,E,v,z,M,A⟩,⟨C,l,y,o,L,H,d,x,I⟩⟩;go_simp;try rfl)
 simp only [Act.put];refine ij 34 ?v32 rfl (by kernel_rfl) (fun _ _ _ h=>h) (by kernel_rfl) ?y32 j ?_
 case y32=>(rintro u ⟨D,⟨J,r,G,F,E,v,z,M,A⟩,⟨C,l,y,o,L,H,d,x,I⟩⟩;go_simp;try rfl)
 simp only [Act.put];refine ij 35 ?v33 rfl (by kernel_rfl) (fun _ _ _ h=>h) (by kernel_rfl) ?y33 j ?_
 case y33=>(rintro u ⟨D,⟨J,r,G,F,E,v,z,M,A⟩,⟨C,l,y,o,L,H,d,x,I⟩⟩;go_simp;try rfl)
 simp only [Act.put];refine ij 36 ?v34 rfl (by kernel_rfl) (fun _ _ _ h=>h) (by kernel_rfl) ?y34 j ?_
 case y34=>(rintro u ⟨D,⟨J,r,G,F,E,v,z,M,A⟩,⟨C,l,y,o,L,H,d,x,I⟩⟩;go_simp;try rfl)
 simp only [Act.put];refine ij 37 ?v35 rfl (by kernel_rfl) (fun _ _ _ h=>h) (by kernel_rfl) ?y35 j ?_
 case y35=>(rintro u ⟨D,⟨J,r,G,F,E,v,z,M,A⟩,⟨C,l,y,o,L,H,d,x,I⟩⟩;go_simp;try rfl)
 simp only [Act.put];refine ij 38 ?v36 rfl (by kernel_rfl) (fun _ _ _ h=>h) (by kernel_rfl) ?y36 j ?_
 case y36=>(rintro u ⟨D,⟨J,r,G,F,E,v,z,M,A⟩,⟨C,l,y,o,L,H,d,x,I⟩⟩;go_simp;try rfl)
 simp only [Act.put];refine ij 39 ?v37 rfl (by kernel_rfl) (fun _ _ _ h=>h) (by kernel_rfl) ?y37 j ?_
 case y37=>(rintro u ⟨D,⟨J,r,G,F,E,v,z,M,A⟩,⟨C,l,y,o,L,H,d,x,I⟩⟩;go_simp;try rfl)
 simp only [Act.put];refine ij 40 ?v38 rfl (by kernel_rfl) (fun _ _ _ h=>h) (by kernel_rfl) ?y38 j ?_
 case y38=>(rintro u ⟨D,⟨J,r,G,F,E,v,z,M,A⟩,⟨C,l,y,o,L,H,d,x,I⟩⟩;go_simp;try rfl)
 simp only [Act.put];refine ij 41 ?v39 rfl (by kernel_rfl) (fun _ _ _ h=>h) (by kernel_rfl) ?y39 j ?_
 case y39=>(rintro u ⟨D,⟨J,r,G,F,E,v,z,M,A⟩,⟨C,l,y,o,L,H,d,x,I⟩⟩;go_simp;try rfl)
 simp only [Act.put];refine ij 42 ?v40 rfl (by kernel_rfl) (fun _ _ _ h=>h) (by kernel_rfl) ?y40 j ?_
 case y40=>(rintro u ⟨D,⟨J,r,G,F,E,v,z,M,A⟩,⟨C,l,y,o,L,H,d,x,I⟩⟩;go_simp;try rfl)
 simp only [Act.put];refine ij 43 ?v41 rfl (by kernel_rfl) (fun _ _ _ h=>h) (by kernel_rfl) ?y41 j ?_
 case y41=>(rintro u ⟨D,⟨J,r,G,F,E,v,z,M,A⟩,⟨C,l,y,o,L,H,d,x,I⟩⟩;go_simp;try rfl)
 simp only [Act.put];refine ij 44 ?v42 rfl (by kernel_rfl) (fun _ _ _ h=>h) (by kernel_rfl) ?y42 j ?_
 case y42=>(rintro u ⟨D,⟨J,r,G,F,E,v,z,M,A⟩,⟨C,l,y,o,L,H,d,x,I⟩⟩;go_simp;try rfl)
 simp only [Act.put];refine ij 45 ?v43 rfl (by kernel_rfl) (fun _ _ _ h=>h) (by kernel_rfl) ?y43 j ?_
 case y43=>(rintro u ⟨D,⟨J,r,G,F,E,v,z,M,A⟩,⟨C,l,y,o,L,H,d,x,I⟩⟩;go_simp;try rfl)
 simp only [Act.put];refine iI rfl (by kernel_rfl) (by kernel_rfl) (by kernel_rfl) ?_;go_simp;clear ak;refine ‹∀ a w,Code.wp Tryz.prog _ _ a w->_› _ _ ?_;obtain⟨z0,z2,cs,z4,z5,z6⟩:=cX.out bk bj.out;refine Eb z0 z2 ab cs z4 db cz z5 z6 j.2.1.2.2.2.1 j.2.1.2.2.2.2.2.2.2.2 j.2.2.2.2.2.1 j.2.2.2.2.2.2.2.2.2.2 cC dj bZ.out.1 bZ.out.2 cT cY HK ?_;intro z0 z1 z2 z3 z4 z5 z7 z8 z9 z10 z11 z12 z13 z14 z15 z16 z17 z18 z19 z20 z21 z22 z23 z24 z25 z26 z27 z28 z29 z30 z31 z32 z33 z34 z35 z36 z37 z38 z39 z40 z41 z42 z43 z44 z45 z46 z47 z48 z49 z50 z51 z52 z53 z54 z55 z56 z57 z58 z59 z60 z61 z62 z63 z64 z65 z66 z67 z68 z69 z70 z71 z72 z73 z74 z75 z76 z77 z78 z79 z80 z81 z82 z83 z84 z85 z86 z87 z88 z89 z90 z91 z92 z93 z94 z95 z96 z97 z98 z99 z100 z101 z102 z103 z104 z105 z106 z107 z108 z109 z110 z111 z112 z113 z114 z115 z116 z117 z118 z119 z120 z121 z122 z123 z124 z125 z126 z127 z128 z129 z130 z131 z132 z133 z134 z135 z136 z137 z138 z139 z140 w' hh;have c3:=il hh;clear hh;go_ret;obtain⟨cB,f',K',q1,q2,q3,q4⟩:=c3.out;exact⟨rfl,cB,f',K',q1,q2,q3,(dh.out.stepG (ip X.out bj.out)).trans (q4.mono de.out)⟩
end
section
open Go.RowKit
attribute [local go_sem] Go.World.cell?_alloc_some
def ko(p:List (List Ins))(s:List Int):List Int:=if iD p s=0 then kx p (iJ p s) else []
theorem Formd.form{p:List (List Ins)}{s:List Int}{w w':World}{e:Ending}(h:Formd p s w e w'):
  w.grownBy w' none/\∃ v,e= .returned (.tuple #[v,.int .i64 (iD p s)])/\w'.ownsRow w.heap.size 3 1 v (ko p s).length (iM (ko p s)):=by
 obtain⟨a,h⟩:=h;rcases h with ⟨h0,v,he,ho⟩ | ⟨h0,he⟩
 ·exact⟨a,v,by rw [h0];exact he,by unfold ko;rw [if_pos h0];exact ho⟩
 ·exact⟨a,_,he,by unfold ko;rw [if_neg h0];exact⟨rfl,Or.inl ⟨rfl,rfl⟩⟩⟩
theorem si(p:List (List Ins))(s:List Int):(ko p s).length<=500:=by
 unfold ko;by_cases h:iD p s=0
 ·rw [if_pos h];have a:iV p=true/\s.length<=500:=by
   unfold iD at h;by_cases a:iV p=true
   ·by_cases c:s.length<=500
    ·exact⟨a,c⟩
    ·simp [a,c]at h
   ·simp [a]at h
  obtain⟨xs,d⟩:=nS a.1 s;unfold kx;rw [m9,d.ev];have b:=nT p s;rw [d.st]at b;simp at b;omega
 ·rw [if_neg h];simp
theorem Cy(W:World)(B:Nat)(w:World)(b:Nat)(who:Nat->Role)(n:Int)(f:Nat->Value)(K:Nat->List (Value × Int))(pv sv:Value)(p:List (List Ins))(s:List Int)
  (h:Hz B w b who n f K) (Y:W.grownBy w none) (m:W.heap.size<=B) (hS:ShpAt W) (N:ProgAt W pv p) (hI:IntsAt W.heap.size W sv s) (af:p.length<=5864062014634) (am:∀ c∈p,c.length<=4398046510976) (a5:s.length<=17592186043904) (bp:0<=n) (hn1:n<=9000000000000) (hK:∀ c,c<5->(K c).length<=4900000000000):
  Calls Tryz.prog 7 #[pt b,pv,sv] w (HzF W B b (n+1) K w who):=by
 have HH:=il h;have HW:=il Y;have HS:=il hS;have HP:=il N;have HI:=il hI;have bd:=il am;have HK:=il hK;obtain⟨E,t,rfl⟩:=N.form;obtain⟨so,sc,rfl⟩:=hI.form;have D:pt b= .pointer (some ⟨b,0,none⟩):=rfl;have ah:=il (nh W B (w.alloc (.cells #[.slice E p.length t] 37)) b who n f K [] [] [] (.agg #[.slice E p.length t]) p (h.lx.grown (ir (iu _ _))) (ir Y) m N af am (by simpa using af) (by simp));clear h Y hS N hI am hK;rw [D]at ah ⊢;go_enter Tryz.func7,Tryz.ntmps7
 go_wp2_with fail
 refine ah.out.mono ?_;clear ah;rintro e j ⟨g,LC1,aW,f1,rfl,z,X,J,a4⟩;have aS:who w.heap.size= .other:=by
  by_cases e:who w.heap.size= .other
  ·exact e
  ·exact absurd (HH.out.1.1.dom _ e).2 (by omega)
 obtain⟨C,y⟩:=J.oth w.heap.size (by simp) aS (fun e=>e);have ad:Hid (W.grownBy j none):=J.base (ir HW.out) m (fun g e=>(HH.out.1.1.dom g e).1) (fun _ e=>e.elim);have bj:Hid (Fr w j who aW (fun g=>w.heap.size<=g)):=(Fr.grown (ir (iu _ _))).step0 J;have c1:j.cell? ⟨w.heap.size,0,none⟩=some (.slice E p.length t):=by
  simp only [World.cell?,C,heap_alloc_new];rfl
 have aH:w.heap.size<j.heap.size:=World.block_lt_of_cell? j _ c1;have aG:LC1.length=p.length:=by rw [<-X];simp
 simp only [List.nil_append]at z;have ak:=il (lT B j b aW n f1 K [] LC1 [(g,p.length)] 0 (.slice so s.length sc) s z ((HI.out.pres (iq ad.out)).mono ad.out.size) (my z.hs m HI.out) a5 (by simp));have ay:=il z;have a9:=il X;have aP:=il y;have aX:=il aG;have az:=il c1;clear z X J a4 C aS y aG c1;rw [D]at ak;go_wp2_with fail
 refine ak.out.mono ?_;clear ak;rintro e a ⟨gs,l,f2,rfl,o,G⟩;simp only [List.nil_append]at o;have aa:Hid (W.grownBy a none):=G.base ad.out m (fun g e=>(ay.out.hs.1.dom g e).1) (fun _ e=>e.elim);have aV:Hid (Fr w a who l (fun g=>w.heap.size<=g)):=bj.out.step0 G;obtain⟨C,y⟩:=G.oth w.heap.size aH aP.out (fun e=>e);have be:=il y;have U:Hid (a.cell? ⟨w.heap.size,0,none⟩=some (.slice E p.length t)):=by
  unfold Hid;rw [World.cell?_of_block C];exact az.out
 have hlt2:w.heap.size<a.heap.size:=World.block_lt_of_cell? a _ U.out;have aC:a.heap[g]?=some (.cells (jC LC1) 66 (0,0)):=by
  have:=(o.le.lr 0 (by simp)).1;simp only [List.getElem_cons_zero,List.take_zero,List.map_nil,List.sum_nil,List.drop_zero]at this;rw [List.take_of_length_le (by rw [aX.out];omega)]at this;exact this
 have aM:ProgAt a (.agg #[.slice (some ⟨g,0,none⟩) p.length (p.length+2)]) p:=nf (LC0:=[]) (by simpa using o.le) aC a9.out _;have aL:IntsAt a.heap.size a (.slice (some ⟨gs,0,none⟩) s.length (s.length+2)) s:=ma (o.le.li (gs,s,.slice so s.length sc) (by simp)).1;have aN:=il (FL p s _ _ a (HS.out.pres (iq aa.out)) aM aL);have u:=il o;clear o G C y aC aM aL ay az aP aH;go_wp2_with fail
 refine aN.out.mono ?_;clear aN;intro e w3 A;obtain⟨L,v,he,ae⟩:=A.form;clear A;subst he;obtain⟨x1,x2,x3,rfl⟩:=iy ae;have H:=il ae;have Z:=il L;have a2:Hid (W.grownBy w3 none):=ip aa.out L;have P:=il (qL B w3 b l n f2 K _ _ _ (u.out.grown L) (by simp) (by rw [aX.out];omega) (by simp));clear ae L;rw [D]at P;generalize aF:iD p s=cr at*;have bg:=il aF;clear aF;go_wp2_with fail
 refine P.out.mono ?_;clear P;rintro e i ⟨rfl,f4,aR,x⟩;have I:Hid (W.grownBy i none):=x.base a2.out m (fun g e=>(u.out.hs.1.dom g e).1) (fun _ e=>e.elim);have bk:Hid (Fr w i who l (fun g=>w.heap.size<=g)):=(aV.out.stepG Z.out).step0 x;have M:∀ q,(Value.slice x1 x2 x3).ownBlock=some q->a.heap.size<=q/\q<w3.heap.size/\l q= .other:=fun q e=>by
  have h1:=iB H.out q e;refine⟨h1,i6 H.out q e,?_⟩;by_cases ho:l q= .other
  ·exact ho
  ·exact absurd (u.out.hs.1.dom q ho).2 (by omega)
 have V:=il M;have aK:Hid (i.ownsRow a.heap.size 3 1 (.slice x1 x2 x3) (ko p s).length (iM (ko p s))):=iN H.out (fun q e=>(x.oth q (M q e).2.1 (M q e).2.2 (fun e=>e)).1);have c4:i.cell? ⟨w.heap.size,0,none⟩=some (.slice E p.length t):=by
  rw [World.cell?_of_block (x.oth w.heap.size (by have:=Z.out.size;omega) be.out (fun e=>e)).1];exact iq Z.out _ _ U.out
 have Q:=il aR;have aI:=il (Bd p s _ _ i (HP.out.pres (iq I.out)) ((HI.out.pres (iq I.out)).mono I.out.size) af bd.out);have bc:Hid (B<=a.heap.size):=by
  have:=u.out.low;unfold Hid;omega
 clear aR x M H u U;go_wp2_with fail
 refine aI.out.mono ?_;clear aI;intro e w5 A;obtain⟨S,v',he,aj⟩:=A.form;clear A;subst he;rw [bg.out];obtain⟨y1,y2,y3,rfl⟩:=iy aj;have bi:=il S;have av:Hid (w5.ownsRow a.heap.size 3 1 (.slice x1 x2 x3) (ko p s).length (iM (ko p s))):=iE aK.out S (fun _ e=>by cases e);have ap:=il (sU (ko p s) (ko p s) _ _ w5 (jz av.out) (jz aj) (by have:=si p s;omega));rw [show (ko p s==ko p s)=true by simp]at ap;clear S aj aK c4;go_wp2_with fail
 refine ap.out.mono ?_;clear ap;rintro e w6 ⟨rfl,aD⟩;have aE:Hid (w5.grownBy w6 none):=iL aD;have an:Hid (i.grownBy w6 none):=ip bi.out aE.out;have aw:Hid (w6.ownsRow B 3 1 (.slice x1 x2 x3) (ko p s).length (iM (ko p s))):=iR (iE av.out aE.out (fun _ e=>by cases e)) bc.out;have ac:=il (oe B w6 b l n f4 K (.slice x1 x2 x3) (ko p s).length _ (Q.out.1.grown an.out) aw.out (fun q e=>(V.out q e).2.2) bp (by omega) (by have:=HK.out 0 (by omega);omega) (by have:=si p s;omega));clear aD av aw;rw [D]at ac;go_wp2_with fail
 refine ac.out.mono ?_;clear ac;rintro e r ⟨⟨rv,rfl⟩,O,T,F,ab,d⟩;have a8:Hid (W.grownBy w6 none):=ip I.out an.out;have a1:Hid (W.grownBy r none):=d.fr.base a8.out m (fun g e=>(Q.out.1.1.dom g e).1) (fun q e=>by have:=(V.out q e).1;have:=aa.out.size;omega);have bm:Hid (Fr w r who O (fun g=>w.heap.size<=g)):=(bk.out.stepG an.out).trans (d.fr.mono fun q e=>by have:=(V.out q e).1;have:=aV.out.size;omega);have a0:Hid (Hz B r b O (n+1) T F):=⟨ab,fun k hk=>by rw [d.lent k hk];exact Q.out.2 k hk⟩;have aO:Hid (∀ c,c<5->(F c).length<=(K c).length+4):=fun c hc=>by
  by_cases e:c=0
  ·subst e;have:=d.len;omega
  ·rw [d.oth c e];omega
 have R:=il (qw B r b O (n+1) T F ab (fun c hc=>by have:=aO.out c hc;have:=HK.out c hc;omega));clear ab d;rw [D]at R;go_wp2_with fail
 refine R.out.mono ?_;clear R;rintro e w8 ⟨rfl,aB⟩;have ag:Hid (r.grownBy w8 none):=iL aB;clear aB;go_wp2_with (go_at_call 23;refine(re _ _).mono ?_;rintro e w9 ⟨rfl,a7⟩;have ba:=a7.symm;subst ba)
 go_ret;exact⟨by simp,O,T,F,⟨a0.out.1.grown ag.out,a0.out.2⟩,ip a1.out ag.out,aO.out,bm.out.stepG ag.out⟩
def r9(p:List (List Ins))(a b:List Int):Bool:=if iU p [a,b]=0 then rO p a b else false
theorem Samed.form{p:List (List Ins)}{a b:List Int}{w w':World}{e:Ending}(h:Samed p a b w e w'):
  w.grownBy w' none/\e= .returned (.tuple #[.bool (r9 p a b),.int .i64 (iU p [a,b])]):=by
 obtain⟨c,h⟩:=h;rcases h with ⟨h0,he⟩ | ⟨h0,he⟩
 ·exact⟨c,by unfold r9;rw [if_pos h0,h0];exact he⟩
 ·exact⟨c,by unfold r9;rw [if_neg h0];exact he⟩
theorem yM(W:World)(B:Nat)(w:World)(b:Nat)(who:Nat->Role)(n:Int)(f:Nat->Value)(K:Nat->List (Value × Int))(pv sv tv:Value)(p:List (List Ins))(s t:List Int)
  (h:Hz B w b who n f K) (V:W.grownBy w none) (r:W.heap.size<=B) (hS:ShpAt W) (L:ProgAt W pv p) (Z:IntsAt W.heap.size W sv s) (U:IntsAt w.heap.size w tv t) (ax:valOther who tv) (ab:p.length<=5864062014634) (ag:∀ c∈p,c.length<=4398046510976) (aW:s.length<=17592186043904) (aX:t.length<=17592186043904):
  Calls Tryz.prog 9 #[pt b,pv,sv,tv] w (HzE W B b n K w who):=by
 have HH:=il h;have HW:=il V;have HS:=il hS;have HP:=il L;have HI:=il Z;have HJ:=il (And.intro U ax);have a3:=il ag;obtain⟨u,m,rfl⟩:=L.form;obtain⟨so,sc,rfl⟩:=Z.form;obtain⟨ta,tc,rfl⟩:=U.form;have J:pt b= .pointer (some ⟨b,0,none⟩):=rfl;have ac:=il (nh W B (w.alloc (.cells #[.slice u p.length m] 37)) b who n f K [] [] [] (.agg #[.slice u p.length m]) p (h.lx.grown (ir (iu _ _))) (ir V) r L ab ag (by simpa using ab) (by simp));clear h V hS L Z U ax ag;rw [J]at ac ⊢;go_enter Tryz.func9,Tryz.ntmps9
 go_wp2_with fail
 refine ac.out.mono ?_;clear ac;rintro e q ⟨g,LC1,aN,f1,rfl,y,R,A,aV⟩;have aJ:who w.heap.size= .other:=by
  by_cases e:who w.heap.size= .other
  ·exact e
  ·exact absurd (HH.out.1.1.dom _ e).2 (by omega)
 obtain⟨i,d⟩:=A.oth w.heap.size (by simp) aJ (fun e=>e);have aa:Hid (W.grownBy q none):=A.base (ir HW.out) r (fun g e=>(HH.out.1.1.dom g e).1) (fun _ e=>e.elim);have a8:Hid (Fr w q who aN (fun g=>w.heap.size<=g)):=(Fr.grown (ir (iu _ _))).step0 A;have c1:q.cell? ⟨w.heap.size,0,none⟩=some (.slice u p.length m):=by
  simp only [World.cell?,i,heap_alloc_new];rfl
 have az:w.heap.size<q.heap.size:=World.block_lt_of_cell? q _ c1;have ay:LC1.length=p.length:=by rw [<-R];simp
 simp only [List.nil_append]at y;have k:=il (lT B q b aN n f1 K [] LC1 [(g,p.length)] 0 (.slice so s.length sc) s y ((HI.out.pres (iq aa.out)).mono aa.out.size) (my y.hs r HI.out) aW (by simp));have aK:=il (mF HJ.out.1 HJ.out.2 ((Fr.grown (ir (iu _ _))).trans A));have aj:=il y;have aZ:=il R;have aI:=il d;have aP:=il ay;have ak:=il c1;clear y R A aV i aJ d ay c1;rw [J]at k;go_wp2_with fail
 refine k.out.mono ?_;clear k;rintro e l ⟨Y,aR,f2,rfl,M,x⟩;simp only [List.nil_append]at M;have a1:Hid (W.grownBy l none):=x.base aa.out r (fun g e=>(aj.out.hs.1.dom g e).1) (fun _ e=>e.elim);have a9:Hid (Fr w l who aR (fun g=>w.heap.size<=g)):=a8.out.step0 x;obtain⟨i,d⟩:=x.oth w.heap.size az aI.out (fun e=>e);have aE:=il d;have Q:Hid (l.cell? ⟨w.heap.size,0,none⟩=some (.slice u p.length m)):=by
  unfold Hid;rw [World.cell?_of_block i];exact ak.out
 have aQ:w.heap.size<l.heap.size:=World.block_lt_of_cell? l _ Q.out;have G:=il (mF aK.out.1 aK.out.2 x);have k:=il (lT B l b aR n f2 K [(Y,s,.slice so s.length sc)] LC1 [(g,p.length)] 0 (.slice ta t.length tc) t M G.out.1 G.out.2 aX (by simp));have au:=il M;clear M x i d aj ak aI az;rw [J]at k;go_wp2_with fail
 refine k.out.mono ?_;clear k;rintro e a ⟨gt,C,f3,rfl,j,v⟩;simp only [List.cons_append,List.nil_append]at j;have ai:Hid (W.grownBy a none):=v.base a1.out r (fun g e=>(au.out.hs.1.dom g e).1) (fun _ e=>e.elim);have aY:Hid (Fr w a who C (fun g=>w.heap.size<=g)):=a9.out.step0 v;obtain⟨i,d⟩:=v.oth w.heap.size aQ aE.out (fun e=>e);have a6:=il d;have X:Hid (a.cell? ⟨w.heap.size,0,none⟩=some (.slice u p.length m)):=by
  unfold Hid;rw [World.cell?_of_block i];exact Q.out
 have hlt3:w.heap.size<a.heap.size:=World.block_lt_of_cell? a _ X.out;have ap:a.heap[g]?=some (.cells (jC LC1) 66 (0,0)):=by
  have:=(j.le.lr 0 (by simp)).1;simp only [List.getElem_cons_zero,List.take_zero,List.map_nil,List.sum_nil,List.drop_zero]at this;rw [List.take_of_length_le (by rw [aP.out];omega)]at this;exact this
 have aG:ProgAt a (.agg #[.slice (some ⟨g,0,none⟩) p.length (p.length+2)]) p:=nf (LC0:=[]) (by simpa using j.le) ap aZ.out _;have aF:IntsAt a.heap.size a (.slice (some ⟨Y,0,none⟩) s.length (s.length+2)) s:=ma (j.le.li (Y,s,.slice so s.length sc) (by simp)).1;have aA:IntsAt a.heap.size a (.slice (some ⟨gt,0,none⟩) t.length (t.length+2)) t:=ma (j.le.li (gt,t,.slice ta t.length tc) (by simp)).1;have aH:=il (DE p s t _ _ _ a (HS.out.pres (iq ai.out)) aG aF aA);have am:=il (mF G.out.1 G.out.2 v);have P:=il j;clear j v i d ap aG aF aA au Q aE aQ;go_wp2_with fail
 refine aH.out.mono ?_;clear aH;intro e w4 z;obtain⟨F,he⟩:=z.form;clear z;subst he;have I:=il F;have a2:Hid (W.grownBy w4 none):=ip ai.out F;have O:=il (qL B w4 b C n f3 K _ _ _ (P.out.grown F) (by simp) (by rw [aP.out];omega) (by simp));clear F;rw [J]at O;generalize aw:iU p [s,t]=cr at*;generalize aq:r9 p s t=zz at*;have a5:=il aw;have bc:=il aq;clear aw aq;go_wp2_with fail
 refine O.out.mono ?_;clear O;rintro e N ⟨rfl,f5,av,D⟩;have E:Hid (W.grownBy N none):=D.base a2.out r (fun g e=>(P.out.hs.1.dom g e).1) (fun _ e=>e.elim);have aS:Hid (Fr w N who C (fun g=>w.heap.size<=g)):=(aY.out.stepG I.out).step0 D;have c5:N.cell? ⟨w.heap.size,0,none⟩=some (.slice u p.length m):=by
  rw [World.cell?_of_block (D.oth w.heap.size (by have:=I.out.size;omega) a6.out (fun e=>e)).1];exact iq I.out _ _ X.out
 have bb:=il (mF am.out.1 am.out.2 ((Fr.grown I.out).trans D));have H:=il av;have aB:=il (zY p s t _ _ _ N (HP.out.pres (iq E.out)) ((HI.out.pres (iq E.out)).mono E.out.size) bb.out.1 ab a3.out);clear av D P X;go_wp2_with fail
 refine aB.out.mono ?_;clear aB;intro e w6 z;obtain⟨aT,he⟩:=z.form;clear z;subst he;rw [a5.out,bc.out];have o:=il aT;clear aT c5;cases zz
 ·go_wp2_with (go_at_call 23;refine(re _ _).mono ?_;rintro e w9 ⟨rfl,S⟩;have T:=S.symm;subst T)
  go_ret;exact⟨by simp,C,f5,⟨H.out.1.grown o.out,H.out.2⟩,ip E.out o.out,aS.out.stepG o.out⟩
 ·go_wp2_with (go_at_call 23;refine(re _ _).mono ?_;rintro e w9 ⟨rfl,S⟩;have T:=S.symm;subst T)
  go_ret;exact⟨by simp,C,f5,⟨H.out.1.grown o.out,H.out.2⟩,ip E.out o.out,aS.out.stepG o.out⟩
def mx(p:List (List Ins))(s:List Int)(fuel:Int):List Int:=if iD p s=0/\0<=fuel then (mi p s fuel.toNat).1 else []
def vS(p:List (List Ins))(s:List Int)(fuel:Int):Int:=if iD p s=0/\0<=fuel then (((mi p s fuel.toNat).2:Nat):Int) else 0
def xp(p:List (List Ins))(s:List Int)(fuel:Int):Int:=if iD p s=0 then (if 0<=fuel then 0 else 2) else iD p s
theorem Shortened.form{p:List (List Ins)}{s:List Int}{fuel:Int}{w w':World}{e:Ending}(h:Shortened p s fuel w e w'):
  w.grownBy w' none/\∃ v,e= .returned (.tuple #[v,.int .i64 (vS p s fuel),.int .i64 (xp p s fuel)])/\w'.ownsRow w.heap.size 3 1 v (mx p s fuel).length (iM (mx p s fuel)):=by
 obtain⟨b,h⟩:=h;rcases h with ⟨h0,hf,v,he,ho⟩ | ⟨h0,hf,he⟩ | ⟨h0,he⟩
 ·refine⟨b,v,?_,?_⟩
  ·unfold vS xp;rw [if_pos ⟨h0,hf⟩,if_pos h0,if_pos hf];exact he
  ·unfold mx;rw [if_pos ⟨h0,hf⟩];exact ho
 ·have a:¬(iD p s=0/\0<=fuel):=by omega
  refine⟨b,.slice none 0 0,?_,?_⟩
  ·unfold vS xp;rw [if_neg a,if_pos h0,if_neg (by omega)];exact he
  ·unfold mx;rw [if_neg a];exact⟨rfl,Or.inl ⟨rfl,rfl⟩⟩
 ·have a:¬(iD p s=0/\0<=fuel):=fun e=>h0 e.1
  refine⟨b,.slice none 0 0,?_,?_⟩
  ·unfold vS xp;rw [if_neg a,if_neg h0];exact he
  ·unfold mx;rw [if_neg a];exact⟨rfl,Or.inl ⟨rfl,rfl⟩⟩
theorem wH(p:List (List Ins))(s:List Int)(fuel:Int):(mx p s fuel).length<=500:=by
 unfold mx;by_cases h:iD p s=0/\0<=fuel
 ·rw [if_pos h];have h5:=(tq h.1).2;unfold mi;have h1:=vm (p:=p) (V:=iJ p s) fuel.toNat (s.take (ki (iJ p s))) 0 0;have h2:(s.take (ki (iJ p s))).length<=s.length:=by simp;omega
  omega
 ·rw [if_neg h];simp
theorem wu(W:World)(B:Nat)(w:World)(b:Nat)(who:Nat->Role)(n:Int)(f:Nat->Value)(K:Nat->List (Value × Int))(pv sv:Value)(p:List (List Ins))(s:List Int)(fuel:Int)
  (h:Hz B w b who n f K) (Y:W.grownBy w none) (m:W.heap.size<=B) (hS:ShpAt W) (N:ProgAt W pv p) (hI:IntsAt W.heap.size W sv s) (a3:oC sv) (aS:fuel<=9223372036854775807) (af:p.length<=5864062014634) (am:∀ c∈p,c.length<=4398046510976) (a9:s.length<=17592186043904) (bv:0<=n) (hn1:n<=9000000000000) (hK:∀ c,c<5->(K c).length<=4900000000000):
  Calls Tryz.prog 8 #[pt b,pv,sv,.int .i64 fuel] w (HzF W B b (n+1) K w who):=by
 have HH:=il h;have HW:=il Y;have HS:=il hS;have HP:=il N;have HI:=il hI;have ba:=il a3;have bi:=il am;have HK:=il hK;obtain⟨E,t,rfl⟩:=N.form;obtain⟨so,sc,rfl⟩:=hI.form;have D:pt b= .pointer (some ⟨b,0,none⟩):=rfl;have ah:=il (nh W B (w.alloc (.cells #[.slice E p.length t] 37)) b who n f K [] [] [] (.agg #[.slice E p.length t]) p (h.lx.grown (ir (iu _ _))) (ir Y) m N af am (by simpa using af) (by simp));clear h Y hS N hI a3 am hK;rw [D]at ah ⊢;go_enter Tryz.func8,Tryz.ntmps8
 go_wp2_with fail
 refine ah.out.mono ?_;clear ah;rintro e j ⟨g,LC1,aX,f1,rfl,z,X,J,a8⟩;have aT:who w.heap.size= .other:=by
  by_cases e:who w.heap.size= .other
  ·exact e
  ·exact absurd (HH.out.1.1.dom _ e).2 (by omega)
 obtain⟨C,y⟩:=J.oth w.heap.size (by simp) aT (fun e=>e);have ad:Hid (W.grownBy j none):=J.base (ir HW.out) m (fun g e=>(HH.out.1.1.dom g e).1) (fun _ e=>e.elim);have bo:Hid (Fr w j who aX (fun g=>w.heap.size<=g)):=(Fr.grown (ir (iu _ _))).step0 J;have c1:j.cell? ⟨w.heap.size,0,none⟩=some (.slice E p.length t):=by
  simp only [World.cell?,C,heap_alloc_new];rfl
 have aH:w.heap.size<j.heap.size:=World.block_lt_of_cell? j _ c1;have aG:LC1.length=p.length:=by rw [<-X];simp
 simp only [List.nil_append]at z;have ak:=il (lT B j b aX n f1 K [] LC1 [(g,p.length)] 0 (.slice so s.length sc) s z ((HI.out.pres (iq ad.out)).mono ad.out.size) (my z.hs m HI.out) a9 (by simp));have ay:=il z;have be:=il X;have aP:=il y;have aY:=il aG;have az:=il c1;clear z X J a8 C aT y aG c1;rw [D]at ak;go_wp2_with fail
 refine ak.out.mono ?_;clear ak;rintro e a ⟨gs,l,f2,rfl,o,G⟩;simp only [List.nil_append]at o;have aa:Hid (W.grownBy a none):=G.base ad.out m (fun g e=>(ay.out.hs.1.dom g e).1) (fun _ e=>e.elim);have aW:Hid (Fr w a who l (fun g=>w.heap.size<=g)):=bo.out.step0 G;obtain⟨C,y⟩:=G.oth w.heap.size aH aP.out (fun e=>e);have bj:=il y;have U:Hid (a.cell? ⟨w.heap.size,0,none⟩=some (.slice E p.length t)):=by
  unfold Hid;rw [World.cell?_of_block C];exact az.out
 have hlt2:w.heap.size<a.heap.size:=World.block_lt_of_cell? a _ U.out;have aC:a.heap[g]?=some (.cells (jC LC1) 66 (0,0)):=by
  have:=(o.le.lr 0 (by simp)).1;simp only [List.getElem_cons_zero,List.take_zero,List.map_nil,List.sum_nil,List.drop_zero]at this;rw [List.take_of_length_le (by rw [aY.out];omega)]at this;exact this
 have aM:ProgAt a (.agg #[.slice (some ⟨g,0,none⟩) p.length (p.length+2)]) p:=nf (LC0:=[]) (by simpa using o.le) aC be.out _;have aL:IntsAt a.heap.size a (.slice (some ⟨gs,0,none⟩) s.length (s.length+2)) s:=ma (o.le.li (gs,s,.slice so s.length sc) (by simp)).1;have aN:=il (AG p s _ _ fuel a (HS.out.pres (iq aa.out)) aM aL (fun _ _ e=>by simp at e) aS);have u:=il o;clear o G C y aC aM aL ay az aP aH;go_wp2_with fail
 refine aN.out.mono ?_;clear aN;intro e w3 A;obtain⟨L,v,he,ae⟩:=A.form;clear A;subst he;obtain⟨x1,x2,x3,rfl⟩:=iy ae;have H:=il ae;have Z:=il L;have a5:Hid (W.grownBy w3 none):=ip aa.out L;have P:=il (qL B w3 b l n f2 K _ _ _ (u.out.grown L) (by simp) (by rw [aY.out];omega) (by simp));clear ae L;rw [D]at P;generalize aF:xp p s fuel=cr at*;generalize a1:vS p s fuel=nm at*;have bl:=il aF;have a6:=il a1;clear aF a1;go_wp2_with fail
 refine P.out.mono ?_;clear P;rintro e i ⟨rfl,f4,aR,x⟩;have I:Hid (W.grownBy i none):=x.base a5.out m (fun g e=>(u.out.hs.1.dom g e).1) (fun _ e=>e.elim);have bp:Hid (Fr w i who l (fun g=>w.heap.size<=g)):=(aW.out.stepG Z.out).step0 x;have M:∀ q,(Value.slice x1 x2 x3).ownBlock=some q->a.heap.size<=q/\q<w3.heap.size/\l q= .other:=fun q e=>by
  have h1:=iB H.out q e;refine⟨h1,i6 H.out q e,?_⟩;by_cases ho:l q= .other
  ·exact ho
  ·exact absurd (u.out.hs.1.dom q ho).2 (by omega)
 have V:=il M;have aK:Hid (i.ownsRow a.heap.size 3 1 (.slice x1 x2 x3) (mx p s fuel).length (iM (mx p s fuel))):=iN H.out (fun q e=>(x.oth q (M q e).2.1 (M q e).2.2 (fun e=>e)).1);have c4:i.cell? ⟨w.heap.size,0,none⟩=some (.slice E p.length t):=by
  rw [World.cell?_of_block (x.oth w.heap.size (by have:=Z.out.size;omega) bj.out (fun e=>e)).1];exact iq Z.out _ _ U.out
 have Q:=il aR;have aI:=il (uQ p s _ _ fuel i (HP.out.pres (iq I.out)) ((HI.out.pres (iq I.out)).mono I.out.size) ba.out aS af bi.out);have bh:Hid (B<=a.heap.size):=by
  have:=u.out.low;unfold Hid;omega
 clear aR x M H u U;go_wp2_with fail
 refine aI.out.mono ?_;clear aI;intro e w5 A;obtain⟨S,v',he,aj⟩:=A.form;clear A;subst he;rw [bl.out,a6.out];obtain⟨y1,y2,y3,rfl⟩:=iy aj;have bn:=il S;have av:Hid (w5.ownsRow a.heap.size 3 1 (.slice x1 x2 x3) (mx p s fuel).length (iM (mx p s fuel))):=iE aK.out S (fun _ e=>by cases e);have ap:=il (sU (mx p s fuel) (mx p s fuel) _ _ w5 (jz av.out) (jz aj) (by have:=wH p s fuel;omega));rw [show (mx p s fuel==mx p s fuel)=true by simp]at ap;clear S aj aK c4;go_wp2_with fail
 refine ap.out.mono ?_;clear ap;rintro e w6 ⟨rfl,aD⟩;have aE:Hid (w5.grownBy w6 none):=iL aD;have an:Hid (i.grownBy w6 none):=ip bn.out aE.out;have aw:Hid (w6.ownsRow B 3 1 (.slice x1 x2 x3) (mx p s fuel).length (iM (mx p s fuel))):=iR (iE av.out aE.out (fun _ e=>by cases e)) bh.out;have ac:=il (oe B w6 b l n f4 K (.slice x1 x2 x3) (mx p s fuel).length _ (Q.out.1.grown an.out) aw.out (fun q e=>(V.out q e).2.2) bv (by omega) (by have:=HK.out 0 (by omega);omega) (by have:=wH p s fuel;omega));clear aD av aw;rw [D]at ac;go_wp2_with fail
 refine ac.out.mono ?_;clear ac;rintro e r ⟨⟨rv,rfl⟩,O,T,F,ab,d⟩;have bd:Hid (W.grownBy w6 none):=ip I.out an.out;have a4:Hid (W.grownBy r none):=d.fr.base bd.out m (fun g e=>(Q.out.1.1.dom g e).1) (fun q e=>by have:=(V.out q e).1;have:=aa.out.size;omega);have br:Hid (Fr w r who O (fun g=>w.heap.size<=g)):=(bp.out.stepG an.out).trans (d.fr.mono fun q e=>by have:=(V.out q e).1;have:=aW.out.size;omega);have a2:Hid (Hz B r b O (n+1) T F):=⟨ab,fun k hk=>by rw [d.lent k hk];exact Q.out.2 k hk⟩;have aO:Hid (∀ c,c<5->(F c).length<=(K c).length+4):=fun c hc=>by
  by_cases e:c=0
  ·subst e;have:=d.len;omega
  ·rw [d.oth c e];omega
 have R:=il (qw B r b O (n+1) T F ab (fun c hc=>by have:=aO.out c hc;have:=HK.out c hc;omega));clear ab d;rw [D]at R;go_wp2_with fail
 refine R.out.mono ?_;clear R;rintro e w8 ⟨rfl,aB⟩;have ag:Hid (r.grownBy w8 none):=iL aB;clear aB;go_wp2_with (go_at_call 23;refine(re _ _).mono ?_;rintro e w9 ⟨rfl,bc⟩;have bf:=bc.symm;subst bf)
 go_ret;exact⟨by simp,O,T,F,⟨a2.out.1.grown ag.out,a2.out.2⟩,ip a4.out ag.out,aO.out,br.out.stepG ag.out⟩
end
end Go.Proofs.YtklenjmfalljgabGreatDoor
