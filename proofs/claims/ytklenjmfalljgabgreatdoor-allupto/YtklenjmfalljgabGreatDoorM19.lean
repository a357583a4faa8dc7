/- The texts Hgq. -/
import Derived.Test.YtklenjmfalljgabGreatDoorM08
import Derived.Test.YtklenjmfalljgabGreatDoorM10
import Derived.Test.YtklenjmfalljgabGreatDoorM18
namespace Go.Proofs.YtklenjmfalljgabGreatDoor
set_option maxRecDepth 100000
set_option maxHeartbeats 8000000
section
open Go.RowKit
attribute [local go_sem] Go.World.cell?_alloc_some
def shOut(p:List (List Ins))(s:List Int)(fuel:Int):List Int:=if checkRunN p s=0/\0<=fuel then (shortS p s fuel.toNat).1 else []
def shNum(p:List (List Ins))(s:List Int)(fuel:Int):Int:=if checkRunN p s=0/\0<=fuel then (((shortS p s fuel.toNat).2:Nat):Int) else 0
def shErr(p:List (List Ins))(s:List Int)(fuel:Int):Int:=if checkRunN p s=0 then (if 0<=fuel then 0 else 2) else checkRunN p s
theorem Shortened.form{p:List (List Ins)}{s:List Int}{fuel:Int}{w w':World}{e:Ending}(h:Shortened p s fuel w e w'):
  w.grownBy w' none/\∃ v,e= .returned (.tuple #[v,.int .i64 (shNum p s fuel),.int .i64 (shErr p s fuel)])/\w'.ownsRow w.heap.size 3 1 v (shOut p s fuel).length (ints (shOut p s fuel)):=by
 obtain⟨b,h⟩:=h;rcases h with ⟨h0,hf,v,he,ho⟩ | ⟨h0,hf,he⟩ | ⟨h0,he⟩
 ·refine⟨b,v,?_,?_⟩
  ·unfold shNum shErr;rw [if_pos ⟨h0,hf⟩,if_pos h0,if_pos hf];exact he
  ·unfold shOut;rw [if_pos ⟨h0,hf⟩];exact ho
 ·have a:¬(checkRunN p s=0/\0<=fuel):=by omega
  refine⟨b,.slice none 0 0,?_,?_⟩
  ·unfold shNum shErr;rw [if_neg a,if_pos h0,if_neg (by omega)];exact he
  ·unfold shOut;rw [if_neg a];exact⟨rfl,Or.inl ⟨rfl,rfl⟩⟩
 ·have a:¬(checkRunN p s=0/\0<=fuel):=fun e=>h0 e.1
  refine⟨b,.slice none 0 0,?_,?_⟩
  ·unfold shNum shErr;rw [if_neg a,if_neg h0];exact he
  ·unfold shOut;rw [if_neg a];exact⟨rfl,Or.inl ⟨rfl,rfl⟩⟩
theorem tf(p:List (List Ins))(s:List Int)(fuel:Int):(shOut p s fuel).length<=500:=by
 unfold shOut;by_cases h:checkRunN p s=0/\0<=fuel
 ·rw [if_pos h];have h5:=(ou h.1).2;unfold shortS;have h1:=rI (p:=p) (V:=runS p s) fuel.toNat (s.take (cameTo (runS p s))) 0 0;have h2:(s.take (cameTo (runS p s))).length<=s.length:=by simp;omega
  omega
 ·rw [if_neg h];simp
theorem ti(W:World)(B:Nat)(w:World)(b:Nat)(who:Nat->Role)(n:Int)(f:Nat->Value)(K:Nat->List (Value × Int))(pv sv:Value)(p:List (List Ins))(s:List Int)(fuel:Int)
  (h:Hz B w b who n f K) (hW:W.grownBy w none) (i:W.heap.size<=B) (hS:ShpAt W) (I:ProgAt W pv p) (hI:IntsAt W.heap.size W sv s) (aW:nilOk sv) (aQ:fuel<=9223372036854775807) (ar:p.length<=5864062014634) (aq:∀ c∈p,c.length<=4398046510976) (br:s.length<=17592186043904) (bq:0<=n) (hn1:n<=9000000000000) (hK:∀ c,c<5->(K c).length<=4900000000000):
  Calls Tryz.prog 8 #[pt b,pv,sv,.int .i64 fuel] w (HzF W B b (n+1) K w who):=by
 have HH:=ij h;have HW:=ij hW;have HS:=ij hS;have HP:=ij I;have X:=ij hI;have bb:=ij aW;have be:=ij aq;have HK:=ij hK;obtain⟨t,u,rfl⟩:=I.form;obtain⟨so,sc,rfl⟩:=hI.form;have A:pt b= .pointer (some ⟨b,0,none⟩):=rfl;have aa:=ij (kz W B (w.alloc (.cells #[.slice t p.length u] 37)) b who n f K [] [] [] (.agg #[.slice t p.length u]) p (h.lx.grown (iq (ir _ _))) (iq hW) i I ar aq (by simpa using ar) (by simp));clear h hW hS I hI aW aq hK;rw [A]at aa ⊢;go_enter Tryz.func8,Tryz.ntmps8
 go_wp2_with fail
 refine aa.out.mono ?_;clear aa;rintro e l ⟨g,LC1,a3,f1,rfl,D,am,L,bp⟩;have aZ:who w.heap.size= .other:=by
  by_cases e:who w.heap.size= .other
  ·exact e
  ·exact absurd (HH.out.1.1.dom _ e).2 (by omega)
 obtain⟨y,C⟩:=L.oth w.heap.size (by simp) aZ (fun e=>e);have ad:Hid (W.grownBy l none):=L.base (iq HW.out) i (fun g e=>(HH.out.1.1.dom g e).1) (fun _ e=>e.elim);have a6:Hid (Fr w l who a3 (fun g=>w.heap.size<=g)):=(Fr.grown (iq (ir _ _))).step0 L;have c1:l.cell? ⟨w.heap.size,0,none⟩=some (.slice t p.length u):=by
  simp only [World.cell?,y,heap_alloc_new];rfl
 have aV:w.heap.size<l.heap.size:=World.block_lt_of_cell? l _ c1;have aU:LC1.length=p.length:=by rw [<-am];simp
 simp only [List.nil_append]at D;have ab:=ij (jP B l b a3 n f1 K [] LC1 [(g,p.length)] 0 (.slice so s.length sc) s D ((X.out.pres (ip ad.out)).mono ad.out.size) (kg D.hs i X.out) br (by simp));have aI:=ij D;have ba:=ij am;have aH:=ij C;have aD:=ij aU;have aw:=ij c1;clear D am L bp y aZ C aU c1;rw [A]at ab;go_wp2_with fail
 refine ab.out.mono ?_;clear ab;rintro e a ⟨gs,o,f2,rfl,j,M⟩;simp only [List.nil_append]at j;have ae:Hid (W.grownBy a none):=M.base ad.out i (fun g e=>(aI.out.hs.1.dom g e).1) (fun _ e=>e.elim);have ax:Hid (Fr w a who o (fun g=>w.heap.size<=g)):=a6.out.step0 M;obtain⟨y,C⟩:=M.oth w.heap.size aV aH.out (fun e=>e);have bk:=ij C;have R:Hid (a.cell? ⟨w.heap.size,0,none⟩=some (.slice t p.length u)):=by
  unfold Hid;rw [World.cell?_of_block y];exact aw.out
 have hlt2:w.heap.size<a.heap.size:=World.block_lt_of_cell? a _ R.out;have aR:a.heap[g]?=some (.cells (lentRows LC1) 66 (0,0)):=by
  have:=(j.le.lr 0 (by simp)).1;simp only [List.getElem_cons_zero,List.take_zero,List.map_nil,List.sum_nil,List.drop_zero]at this;rw [List.take_of_length_le (by rw [aD.out];omega)]at this;exact this
 have aN:ProgAt a (.agg #[.slice (some ⟨g,0,none⟩) p.length (p.length+2)]) p:=ky (LC0:=[]) (by simpa using j.le) aR ba.out _;have aL:IntsAt a.heap.size a (.slice (some ⟨gs,0,none⟩) s.length (s.length+2)) s:=jQ (j.le.li (gs,s,.slice so s.length sc) (by simp)).1;have ay:=ij (wY p s _ _ fuel a (HS.out.pres (ip ae.out)) aN aL (fun _ _ e=>by simp at e) aQ);have r:=ij j;clear j M y C aR aN aL aI aw aH aV;go_wp2_with fail
 refine ay.out.mono ?_;clear ay;intro e w3 x;obtain⟨N,v,he,an⟩:=x.form;clear x;subst he;obtain⟨x1,x2,x3,rfl⟩:=iw an;have F:=ij an;have S:=ij N;have bh:Hid (W.grownBy w3 none):=il ae.out N;have P:=ij (m9 B w3 b o n f2 K _ _ _ (r.out.grown N) (by simp) (by rw [aD.out];omega) (by simp));clear an N;rw [A]at P;generalize aP:shErr p s fuel=cr at*;generalize aX:shNum p s fuel=nm at*;have a4:=ij aP;have bc:=ij aX;clear aP aX;go_wp2_with fail
 refine P.out.mono ?_;clear P;rintro e m ⟨rfl,f4,a0,z⟩;have G:Hid (W.grownBy m none):=z.base bh.out i (fun g e=>(r.out.hs.1.dom g e).1) (fun _ e=>e.elim);have a7:Hid (Fr w m who o (fun g=>w.heap.size<=g)):=(ax.out.stepG S.out).step0 z;have J:∀ q,(Value.slice x1 x2 x3).ownBlock=some q->a.heap.size<=q/\q<w3.heap.size/\o q= .other:=fun q e=>by
  have h1:=iA F.out q e;refine⟨h1,iP F.out q e,?_⟩;by_cases ho:o q= .other
  ·exact ho
  ·exact absurd (r.out.hs.1.dom q ho).2 (by omega)
 have Q:=ij J;have aE:Hid (m.ownsRow a.heap.size 3 1 (.slice x1 x2 x3) (shOut p s fuel).length (ints (shOut p s fuel))):=iI F.out (fun q e=>(z.oth q (J q e).2.1 (J q e).2.2 (fun e=>e)).1);have c4:m.cell? ⟨w.heap.size,0,none⟩=some (.slice t p.length u):=by
  rw [World.cell?_of_block (z.oth w.heap.size (by have:=S.out.size;omega) bk.out (fun e=>e)).1];exact ip S.out _ _ R.out
 have af:=ij a0;have aG:=ij (rG p s _ _ fuel m (HP.out.pres (ip G.out)) ((X.out.pres (ip G.out)).mono G.out.size) bb.out aQ ar be.out);have a5:Hid (B<=a.heap.size):=by
  have:=r.out.low;unfold Hid;omega
 clear a0 z J F r R;go_wp2_with fail
 refine aG.out.mono ?_;clear aG;intro e w5 x;obtain⟨al,v',he,ap⟩:=x.form;clear x;subst he;rw [a4.out,bc.out];obtain⟨y1,y2,y3,rfl⟩:=iw ap;have a9:=ij al;have Z:Hid (w5.ownsRow a.heap.size 3 1 (.slice x1 x2 x3) (shOut p s fuel).length (ints (shOut p s fuel))):=iC aE.out al (fun _ e=>by cases e);have ac:=ij (pi (shOut p s fuel) (shOut p s fuel) _ _ w5 (iV Z.out) (iV ap) (by have:=tf p s fuel;omega));rw [show (shOut p s fuel==shOut p s fuel)=true by simp]at ac;clear al ap aE c4;go_wp2_with fail
 refine ac.out.mono ?_;clear ac;rintro e w6 ⟨rfl,aS⟩;have az:Hid (w5.grownBy w6 none):=iH aS;have T:Hid (m.grownBy w6 none):=il a9.out az.out;have aF:Hid (w6.ownsRow B 3 1 (.slice x1 x2 x3) (shOut p s fuel).length (ints (shOut p s fuel))):=iK (iC Z.out az.out (fun _ e=>by cases e)) a5.out;have Y:=ij (lj B w6 b o n f4 K (.slice x1 x2 x3) (shOut p s fuel).length _ (af.out.1.grown T.out) aF.out (fun q e=>(Q.out q e).2.2) bq (by omega) (by have:=HK.out 0 (by omega);omega) (by have:=tf p s fuel;omega));clear aS Z aF;rw [A]at Y;go_wp2_with fail
 refine Y.out.mono ?_;clear Y;rintro e E ⟨⟨rv,rfl⟩,O,f7,H,ah,d⟩;have bi:Hid (W.grownBy w6 none):=il G.out T.out;have bj:Hid (W.grownBy E none):=d.fr.base bi.out i (fun g e=>(af.out.1.1.dom g e).1) (fun q e=>by have:=(Q.out q e).1;have:=ae.out.size;omega);have a8:Hid (Fr w E who O (fun g=>w.heap.size<=g)):=(a7.out.stepG T.out).trans (d.fr.mono fun q e=>by have:=(Q.out q e).1;have:=ax.out.size;omega);have aJ:Hid (Hz B E b O (n+1) f7 H):=⟨ah,fun k hk=>by rw [d.lent k hk];exact af.out.2 k hk⟩;have aC:Hid (∀ c,c<5->(H c).length<=(K c).length+4):=fun c hc=>by
  by_cases e:c=0
  ·subst e;have:=d.len;omega
  ·rw [d.oth c e];omega
 have V:=ij (mK B E b O (n+1) f7 H ah (fun c hc=>by have:=aC.out c hc;have:=HK.out c hc;omega));clear ah d;rw [A]at V;go_wp2_with fail
 refine V.out.mono ?_;clear V;rintro e w8 ⟨rfl,aT⟩;have U:Hid (E.grownBy w8 none):=iH aT;clear aT;go_wp2_with (go_at_call 23;refine(nu _ _).mono ?_;rintro e w9 ⟨rfl,bt⟩;have bu:=bt.symm;subst bu)
 go_ret;exact⟨by simp,O,f7,H,⟨aJ.out.1.grown U.out,aJ.out.2⟩,il bj.out U.out,aC.out,a8.out.stepG U.out⟩
end
end Go.Proofs.YtklenjmfalljgabGreatDoor
