/- The texts Hgo Hgp. -/
import Derived.Test.YtklenjmfalljgabGreatDoorM08
import Derived.Test.YtklenjmfalljgabGreatDoorM10
import Derived.Test.YtklenjmfalljgabGreatDoorM16
namespace Go.Proofs.YtklenjmfalljgabGreatDoor
set_option maxRecDepth 100000
set_option maxHeartbeats 8000000
section
open Go.RowKit
attribute [local go_sem] Go.World.cell?_alloc_some
def formOut(p:List (List Ins))(s:List Int):List Int:=if checkRunN p s=0 then formS p (runS p s) else []
theorem Formd.form{p:List (List Ins)}{s:List Int}{w w':World}{e:Ending}(h:Formd p s w e w'):
  w.grownBy w' none/\∃ v,e= .returned (.tuple #[v,.int .i64 (checkRunN p s)])/\w'.ownsRow w.heap.size 3 1 v (formOut p s).length (ints (formOut p s)):=by
 obtain⟨a,h⟩:=h;rcases h with ⟨h0,v,he,ho⟩ | ⟨h0,he⟩
 ·exact⟨a,v,by rw [h0];exact he,by unfold formOut;rw [if_pos h0];exact ho⟩
 ·exact⟨a,_,he,by unfold formOut;rw [if_neg h0];exact⟨rfl,Or.inl ⟨rfl,rfl⟩⟩⟩
theorem oH(p:List (List Ins))(s:List Int):(formOut p s).length<=500:=by
 unfold formOut;by_cases h:checkRunN p s=0
 ·rw [if_pos h];have a:vProg p=true/\s.length<=500:=by
   unfold checkRunN at h;by_cases a:vProg p=true
   ·by_cases c:s.length<=500
    ·exact⟨a,c⟩
    ·simp [a,c]at h
   ·simp [a]at h
  obtain⟨xs,d⟩:=kZ a.1 s;unfold formS;rw [kt,d.ev];have b:=kY p s;rw [d.st]at b;simp at b;omega
 ·rw [if_neg h];simp
theorem xZ(W:World)(B:Nat)(w:World)(b:Nat)(who:Nat->Role)(n:Int)(f:Nat->Value)(K:Nat->List (Value × Int))(pv sv:Value)(p:List (List Ins))(s:List Int)
  (h:Hz B w b who n f K) (hW:W.grownBy w none) (i:W.heap.size<=B) (hS:ShpAt W) (I:ProgAt W pv p) (hI:IntsAt W.heap.size W sv s) (ar:p.length<=5864062014634) (aq:∀ c∈p,c.length<=4398046510976) (bm:s.length<=17592186043904) (bl:0<=n) (hn1:n<=9000000000000) (hK:∀ c,c<5->(K c).length<=4900000000000):
  Calls Tryz.prog 7 #[pt b,pv,sv] w (HzF W B b (n+1) K w who):=by
 have HH:=ij h;have HW:=ij hW;have HS:=ij hS;have HP:=ij I;have X:=ij hI;have a9:=ij aq;have HK:=ij hK;obtain⟨t,u,rfl⟩:=I.form;obtain⟨so,sc,rfl⟩:=hI.form;have A:pt b= .pointer (some ⟨b,0,none⟩):=rfl;have aa:=ij (kz W B (w.alloc (.cells #[.slice t p.length u] 37)) b who n f K [] [] [] (.agg #[.slice t p.length u]) p (h.lx.grown (iq (ir _ _))) (iq hW) i I ar aq (by simpa using ar) (by simp));clear h hW hS I hI aq hK;rw [A]at aa ⊢;go_enter Tryz.func7,Tryz.ntmps7
 go_wp2_with fail
 refine aa.out.mono ?_;clear aa;rintro e l ⟨g,LC1,a0,f1,rfl,D,am,L,bk⟩;have aW:who w.heap.size= .other:=by
  by_cases e:who w.heap.size= .other
  ·exact e
  ·exact absurd (HH.out.1.1.dom _ e).2 (by omega)
 obtain⟨y,C⟩:=L.oth w.heap.size (by simp) aW (fun e=>e);have ad:Hid (W.grownBy l none):=L.base (iq HW.out) i (fun g e=>(HH.out.1.1.dom g e).1) (fun _ e=>e.elim);have a3:Hid (Fr w l who a0 (fun g=>w.heap.size<=g)):=(Fr.grown (iq (ir _ _))).step0 L;have c1:l.cell? ⟨w.heap.size,0,none⟩=some (.slice t p.length u):=by
  simp only [World.cell?,y,heap_alloc_new];rfl
 have aU:w.heap.size<l.heap.size:=World.block_lt_of_cell? l _ c1;have aT:LC1.length=p.length:=by rw [<-am];simp
 simp only [List.nil_append]at D;have ab:=ij (jP B l b a0 n f1 K [] LC1 [(g,p.length)] 0 (.slice so s.length sc) s D ((X.out.pres (ip ad.out)).mono ad.out.size) (kg D.hs i X.out) bm (by simp));have aI:=ij D;have a7:=ij am;have aH:=ij C;have aD:=ij aT;have aw:=ij c1;clear D am L bk y aW C aT c1;rw [A]at ab;go_wp2_with fail
 refine ab.out.mono ?_;clear ab;rintro e a ⟨gs,o,f2,rfl,j,M⟩;simp only [List.nil_append]at j;have ae:Hid (W.grownBy a none):=M.base ad.out i (fun g e=>(aI.out.hs.1.dom g e).1) (fun _ e=>e.elim);have ax:Hid (Fr w a who o (fun g=>w.heap.size<=g)):=a3.out.step0 M;obtain⟨y,C⟩:=M.oth w.heap.size aU aH.out (fun e=>e);have bf:=ij C;have R:Hid (a.cell? ⟨w.heap.size,0,none⟩=some (.slice t p.length u)):=by
  unfold Hid;rw [World.cell?_of_block y];exact aw.out
 have hlt2:w.heap.size<a.heap.size:=World.block_lt_of_cell? a _ R.out;have aQ:a.heap[g]?=some (.cells (lentRows LC1) 66 (0,0)):=by
  have:=(j.le.lr 0 (by simp)).1;simp only [List.getElem_cons_zero,List.take_zero,List.map_nil,List.sum_nil,List.drop_zero]at this;rw [List.take_of_length_le (by rw [aD.out];omega)]at this;exact this
 have aN:ProgAt a (.agg #[.slice (some ⟨g,0,none⟩) p.length (p.length+2)]) p:=ky (LC0:=[]) (by simpa using j.le) aQ a7.out _;have aL:IntsAt a.heap.size a (.slice (some ⟨gs,0,none⟩) s.length (s.length+2)) s:=jQ (j.le.li (gs,s,.slice so s.length sc) (by simp)).1;have ay:=ij (BD p s _ _ a (HS.out.pres (ip ae.out)) aN aL);have r:=ij j;clear j M y C aQ aN aL aI aw aH aU;go_wp2_with fail
 refine ay.out.mono ?_;clear ay;intro e w3 x;obtain⟨N,v,he,an⟩:=x.form;clear x;subst he;obtain⟨x1,x2,x3,rfl⟩:=iw an;have F:=ij an;have S:=ij N;have bc:Hid (W.grownBy w3 none):=il ae.out N;have P:=ij (m9 B w3 b o n f2 K _ _ _ (r.out.grown N) (by simp) (by rw [aD.out];omega) (by simp));clear an N;rw [A]at P;generalize aP:checkRunN p s=cr at*;have a1:=ij aP;clear aP;go_wp2_with fail
 refine P.out.mono ?_;clear P;rintro e m ⟨rfl,f4,aX,z⟩;have G:Hid (W.grownBy m none):=z.base bc.out i (fun g e=>(r.out.hs.1.dom g e).1) (fun _ e=>e.elim);have a4:Hid (Fr w m who o (fun g=>w.heap.size<=g)):=(ax.out.stepG S.out).step0 z;have J:∀ q,(Value.slice x1 x2 x3).ownBlock=some q->a.heap.size<=q/\q<w3.heap.size/\o q= .other:=fun q e=>by
  have h1:=iA F.out q e;refine⟨h1,iP F.out q e,?_⟩;by_cases ho:o q= .other
  ·exact ho
  ·exact absurd (r.out.hs.1.dom q ho).2 (by omega)
 have Q:=ij J;have aE:Hid (m.ownsRow a.heap.size 3 1 (.slice x1 x2 x3) (formOut p s).length (ints (formOut p s))):=iI F.out (fun q e=>(z.oth q (J q e).2.1 (J q e).2.2 (fun e=>e)).1);have c4:m.cell? ⟨w.heap.size,0,none⟩=some (.slice t p.length u):=by
  rw [World.cell?_of_block (z.oth w.heap.size (by have:=S.out.size;omega) bf.out (fun e=>e)).1];exact ip S.out _ _ R.out
 have af:=ij aX;have aG:=ij (wQ p s _ _ m (HP.out.pres (ip G.out)) ((X.out.pres (ip G.out)).mono G.out.size) ar a9.out);have a2:Hid (B<=a.heap.size):=by
  have:=r.out.low;unfold Hid;omega
 clear aX z J F r R;go_wp2_with fail
 refine aG.out.mono ?_;clear aG;intro e w5 x;obtain⟨al,v',he,ap⟩:=x.form;clear x;subst he;rw [a1.out];obtain⟨y1,y2,y3,rfl⟩:=iw ap;have a6:=ij al;have Z:Hid (w5.ownsRow a.heap.size 3 1 (.slice x1 x2 x3) (formOut p s).length (ints (formOut p s))):=iC aE.out al (fun _ e=>by cases e);have ac:=ij (pi (formOut p s) (formOut p s) _ _ w5 (iV Z.out) (iV ap) (by have:=oH p s;omega));rw [show (formOut p s==formOut p s)=true by simp]at ac;clear al ap aE c4;go_wp2_with fail
 refine ac.out.mono ?_;clear ac;rintro e w6 ⟨rfl,aR⟩;have az:Hid (w5.grownBy w6 none):=iH aR;have T:Hid (m.grownBy w6 none):=il a6.out az.out;have aF:Hid (w6.ownsRow B 3 1 (.slice x1 x2 x3) (formOut p s).length (ints (formOut p s))):=iK (iC Z.out az.out (fun _ e=>by cases e)) a2.out;have Y:=ij (lj B w6 b o n f4 K (.slice x1 x2 x3) (formOut p s).length _ (af.out.1.grown T.out) aF.out (fun q e=>(Q.out q e).2.2) bl (by omega) (by have:=HK.out 0 (by omega);omega) (by have:=oH p s;omega));clear aR Z aF;rw [A]at Y;go_wp2_with fail
 refine Y.out.mono ?_;clear Y;rintro e E ⟨⟨rv,rfl⟩,O,f7,H,ah,d⟩;have bd:Hid (W.grownBy w6 none):=il G.out T.out;have be:Hid (W.grownBy E none):=d.fr.base bd.out i (fun g e=>(af.out.1.1.dom g e).1) (fun q e=>by have:=(Q.out q e).1;have:=ae.out.size;omega);have a5:Hid (Fr w E who O (fun g=>w.heap.size<=g)):=(a4.out.stepG T.out).trans (d.fr.mono fun q e=>by have:=(Q.out q e).1;have:=ax.out.size;omega);have aJ:Hid (Hz B E b O (n+1) f7 H):=⟨ah,fun k hk=>by rw [d.lent k hk];exact af.out.2 k hk⟩;have aC:Hid (∀ c,c<5->(H c).length<=(K c).length+4):=fun c hc=>by
  by_cases e:c=0
  ·subst e;have:=d.len;omega
  ·rw [d.oth c e];omega
 have V:=ij (mK B E b O (n+1) f7 H ah (fun c hc=>by have:=aC.out c hc;have:=HK.out c hc;omega));clear ah d;rw [A]at V;go_wp2_with fail
 refine V.out.mono ?_;clear V;rintro e w8 ⟨rfl,aS⟩;have U:Hid (E.grownBy w8 none):=iH aS;clear aS;go_wp2_with (go_at_call 23;refine(nu _ _).mono ?_;rintro e w9 ⟨rfl,bn⟩;have bo:=bn.symm;subst bo)
 go_ret;exact⟨by simp,O,f7,H,⟨aJ.out.1.grown U.out,aJ.out.2⟩,il be.out U.out,aC.out,a5.out.stepG U.out⟩
def sameOut(p:List (List Ins))(a b:List Int):Bool:=if checkRunsN p [a,b]=0 then sameS p a b else false
theorem Samed.form{p:List (List Ins)}{a b:List Int}{w w':World}{e:Ending}(h:Samed p a b w e w'):
  w.grownBy w' none/\e= .returned (.tuple #[.bool (sameOut p a b),.int .i64 (checkRunsN p [a,b])]):=by
 obtain⟨c,h⟩:=h;rcases h with ⟨h0,he⟩ | ⟨h0,he⟩
 ·exact⟨c,by unfold sameOut;rw [if_pos h0,h0];exact he⟩
 ·exact⟨c,by unfold sameOut;rw [if_neg h0];exact he⟩
theorem tD(W:World)(B:Nat)(w:World)(b:Nat)(who:Nat->Role)(n:Int)(f:Nat->Value)(K:Nat->List (Value × Int))(pv sv tv:Value)(p:List (List Ins))(s t:List Int)
  (h:Hz B w b who n f K) (Z:W.grownBy w none) (q:W.heap.size<=B) (hS:ShpAt W) (I:ProgAt W pv p) (X:IntsAt W.heap.size W sv s) (Y:IntsAt w.heap.size w tv t) (aC:valOther who tv) (ad:p.length<=5864062014634) (ac:∀ c∈p,c.length<=4398046510976) (bc:s.length<=17592186043904) (bd:t.length<=17592186043904):
  Calls Tryz.prog 9 #[pt b,pv,sv,tv] w (HzE W B b n K w who):=by
 have HH:=ij h;have HW:=ij Z;have HS:=ij hS;have HP:=ij I;have R:=ij X;have HJ:=ij (And.intro Y aC);have a1:=ij ac;obtain⟨m,o,rfl⟩:=I.form;obtain⟨so,sc,rfl⟩:=X.form;obtain⟨ta,tc,rfl⟩:=Y.form;have L:pt b= .pointer (some ⟨b,0,none⟩):=rfl;have S:=ij (kz W B (w.alloc (.cells #[.slice m p.length o] 37)) b who n f K [] [] [] (.agg #[.slice m p.length o]) p (h.lx.grown (iq (ir _ _))) (iq Z) q I ad ac (by simpa using ad) (by simp));clear h Z hS I X Y aC ac;rw [L]at S ⊢;go_enter Tryz.func9,Tryz.ntmps9
 go_wp2_with fail
 refine S.out.mono ?_;clear S;rintro e r ⟨g,LC1,aS,f1,rfl,D,ab,y,bb⟩;have aN:who w.heap.size= .other:=by
  by_cases e:who w.heap.size= .other
  ·exact e
  ·exact absurd (HH.out.1.1.dom _ e).2 (by omega)
 obtain⟨d,i⟩:=y.oth w.heap.size (by simp) aN (fun e=>e);have T:Hid (W.grownBy r none):=y.base (iq HW.out) q (fun g e=>(HH.out.1.1.dom g e).1) (fun _ e=>e.elim);have aV:Hid (Fr w r who aS (fun g=>w.heap.size<=g)):=(Fr.grown (iq (ir _ _))).step0 y;have c1:r.cell? ⟨w.heap.size,0,none⟩=some (.slice m p.length o):=by
  simp only [World.cell?,d,heap_alloc_new];rfl
 have aK:w.heap.size<r.heap.size:=World.block_lt_of_cell? r _ c1;have aJ:LC1.length=p.length:=by rw [<-ab];simp
 simp only [List.nil_append]at D;have j:=ij (jP B r b aS n f1 K [] LC1 [(g,p.length)] 0 (.slice so s.length sc) s D ((R.out.pres (ip T.out)).mono T.out.size) (kg D.hs q R.out) bc (by simp));have an:=ij (kc HJ.out.1 HJ.out.2 ((Fr.grown (iq (ir _ _))).trans y));have ax:=ij D;have aZ:=ij ab;have av:=ij i;have aq:=ij aJ;have ai:=ij c1;clear D ab y bb d aN i aJ c1;rw [L]at j;go_wp2_with fail
 refine j.out.mono ?_;clear j;rintro e u ⟨V,aT,f2,rfl,M,z⟩;simp only [List.nil_append]at M;have a5:Hid (W.grownBy u none):=z.base T.out q (fun g e=>(ax.out.hs.1.dom g e).1) (fun _ e=>e.elim);have aW:Hid (Fr w u who aT (fun g=>w.heap.size<=g)):=aV.out.step0 z;obtain⟨d,i⟩:=z.oth w.heap.size aK av.out (fun e=>e);have aw:=ij i;have P:Hid (u.cell? ⟨w.heap.size,0,none⟩=some (.slice m p.length o)):=by
  unfold Hid;rw [World.cell?_of_block d];exact ai.out
 have aL:w.heap.size<u.heap.size:=World.block_lt_of_cell? u _ P.out;have G:=ij (kc an.out.1 an.out.2 z);have j:=ij (jP B u b aT n f2 K [(V,s,.slice so s.length sc)] LC1 [(g,p.length)] 0 (.slice ta t.length tc) t M G.out.1 G.out.2 bd (by simp));have ay:=ij M;clear M z d i ax ai av aK;rw [L]at j;go_wp2_with fail
 refine j.out.mono ?_;clear j;rintro e a ⟨gt,E,f3,rfl,k,A⟩;simp only [List.cons_append,List.nil_append]at k;have au:Hid (W.grownBy a none):=A.base a5.out q (fun g e=>(ay.out.hs.1.dom g e).1) (fun _ e=>e.elim);have aX:Hid (Fr w a who E (fun g=>w.heap.size<=g)):=aW.out.step0 A;obtain⟨d,i⟩:=A.oth w.heap.size aL aw.out (fun e=>e);have a7:=ij i;have Q:Hid (a.cell? ⟨w.heap.size,0,none⟩=some (.slice m p.length o)):=by
  unfold Hid;rw [World.cell?_of_block d];exact P.out
 have hlt3:w.heap.size<a.heap.size:=World.block_lt_of_cell? a _ Q.out;have aI:a.heap[g]?=some (.cells (lentRows LC1) 66 (0,0)):=by
  have:=(k.le.lr 0 (by simp)).1;simp only [List.getElem_cons_zero,List.take_zero,List.map_nil,List.sum_nil,List.drop_zero]at this;rw [List.take_of_length_le (by rw [aq.out];omega)]at this;exact this
 have aE:ProgAt a (.agg #[.slice (some ⟨g,0,none⟩) p.length (p.length+2)]) p:=ky (LC0:=[]) (by simpa using k.le) aI aZ.out _;have aB:IntsAt a.heap.size a (.slice (some ⟨V,0,none⟩) s.length (s.length+2)) s:=jQ (k.le.li (V,s,.slice so s.length sc) (by simp)).1;have aD:IntsAt a.heap.size a (.slice (some ⟨gt,0,none⟩) t.length (t.length+2)) t:=jQ (k.le.li (gt,t,.slice ta t.length tc) (by simp)).1;have ak:=ij (AX p s t _ _ _ a (HS.out.pres (ip au.out)) aE aB aD);have ap:=ij (kc G.out.1 G.out.2 A);have U:=ij k;clear k A d i aI aE aB aD ay P aw aL;go_wp2_with fail
 refine ak.out.mono ?_;clear ak;intro e w4 x;obtain⟨J,he⟩:=x.form;clear x;subst he;have F:=ij J;have a6:Hid (W.grownBy w4 none):=il au.out J;have O:=ij (m9 B w4 b E n f3 K _ _ _ (U.out.grown J) (by simp) (by rw [aq.out];omega) (by simp));clear J;rw [L]at O;generalize aG:checkRunsN p [s,t]=cr at*;generalize aM:sameOut p s t=zz at*;have aU:=ij aG;have a3:=ij aM;clear aG aM;go_wp2_with fail
 refine O.out.mono ?_;clear O;rintro e N ⟨rfl,f5,aO,C⟩;have v:Hid (W.grownBy N none):=C.base a6.out q (fun g e=>(U.out.hs.1.dom g e).1) (fun _ e=>e.elim);have aj:Hid (Fr w N who E (fun g=>w.heap.size<=g)):=(aX.out.stepG F.out).step0 C;have c5:N.cell? ⟨w.heap.size,0,none⟩=some (.slice m p.length o):=by
  rw [World.cell?_of_block (C.oth w.heap.size (by have:=F.out.size;omega) a7.out (fun e=>e)).1];exact ip F.out _ _ Q.out
 have aY:=ij (kc ap.out.1 ap.out.2 ((Fr.grown F.out).trans C));have H:=ij aO;have ar:=ij (wR p s t _ _ _ N (HP.out.pres (ip v.out)) ((R.out.pres (ip v.out)).mono v.out.size) aY.out.1 ad a1.out);clear aO C U Q;go_wp2_with fail
 refine ar.out.mono ?_;clear ar;intro e w6 x;obtain⟨aH,he⟩:=x.form;clear x;subst he;rw [aU.out,a3.out];have l:=ij aH;clear aH c5;cases zz
 ·go_wp2_with (go_at_call 23;refine(nu _ _).mono ?_;rintro e w9 ⟨rfl,ae⟩;have af:=ae.symm;subst af)
  go_ret;exact⟨by simp,E,f5,⟨H.out.1.grown l.out,H.out.2⟩,il v.out l.out,aj.out.stepG l.out⟩
 ·go_wp2_with (go_at_call 23;refine(nu _ _).mono ?_;rintro e w9 ⟨rfl,ae⟩;have af:=ae.symm;subst af)
  go_ret;exact⟨by simp,E,f5,⟨H.out.1.grown l.out,H.out.2⟩,il v.out l.out,aj.out.stepG l.out⟩
end
end Go.Proofs.YtklenjmfalljgabGreatDoor
