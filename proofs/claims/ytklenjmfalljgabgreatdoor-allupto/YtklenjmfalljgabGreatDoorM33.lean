/- The texts Hhp. -/
import Derived.Test.YtklenjmfalljgabGreatDoorM10
import Derived.Test.YtklenjmfalljgabGreatDoorM26
namespace Go.Proofs.YtklenjmfalljgabGreatDoor
set_option maxRecDepth 100000
set_option maxHeartbeats 8000000
section
open Go.RowKit
attribute [local go_sem] Go.World.cell?_alloc_some
theorem yH(n:Int)(w:World):Calls Tryz.prog 23 #[.int .i64 n] w fun e w'=>e= .returned (.int .i64 n)/\w'=w:=by
 go_enter Tryz.func23,Tryz.ntmps23
 go_wp2_with fail
 go_ret;exact⟨rfl,rfl⟩
def prnOut(l:List Int):ByteArray × Int:=if validS l=true then (⟨(printS l).toArray⟩,0) else (⟨#[]⟩,2)
theorem sK{l:List Int}{e:Ending}(h:(validS l=true/\e= .returned (.tuple #[.string ⟨(printS l).toArray⟩,.int .i64 0]))\/(validS l=false/\e= .returned (.tuple #[.string ⟨#[]⟩,.int .i64 2]))):e= .returned (.tuple #[.string (prnOut l).1,.int .i64 (prnOut l).2]):=by
 unfold prnOut;rcases h with ⟨h,rfl⟩ | ⟨h,rfl⟩
 ·rw [if_pos h]
 ·rw [if_neg (by rw [h];simp)]
theorem wF(W:World)(B:Nat)(w:World)(b:Nat)(who:Nat->Role)(n:Int)(f:Nat->Value)(K:Nat->List (Value × Int))(M:Value)(l:List Int)
  (h:Hz B w b who n f K) (i:W.grownBy w none) (u:W.heap.size<=B) (H:Tab W) (a:IntsAt W.heap.size W M l) (hln:l.length<=1048576):
  Calls Tryz.prog 14 #[pt b,M] w (HzE W B b n K w who):=by
 have R:=ij h;have U:=ij i;have T:=ij H;have S:=ij a;obtain⟨s,t,rfl⟩:=a.form;have J:pt b= .pointer (some ⟨b,0,none⟩):=rfl;have q:=ij (jP B w b who n f K [] [] [] 0 (.slice s l.length t) l h.lx ((a.pres (ip i)).mono i.size) (kg h.1 u a) (by omega) (by simp));clear h i H a;rw [J]at q ⊢;go_enter Tryz.func14,Tryz.ntmps14
 go_wp2_with fail
 refine q.out.mono ?_;clear q;rintro e d ⟨F,m,f1,rfl,k,v⟩;simp only [List.nil_append]at k;have C:Hid (W.grownBy d none):=v.base U.out u (fun g e=>(R.out.1.1.dom g e).1) (fun _ e=>e.elim);have O:Hid (Fr w d who m (fun g=>w.heap.size<=g)):=(Fr.refl _ _ _).step0 v;have G:IntsAt d.heap.size d (.slice (some ⟨F,0,none⟩) l.length (l.length+2)) l:=jQ (k.le.li (F,l,.slice s l.length t) (by simp)).1;have z:=ij (AI l _ d (T.out.grown C.out) G);have D:=ij k;clear k v G;go_wp2_with fail
 refine z.out.mono ?_;clear z;rintro e N ⟨j,c⟩;obtain rfl:=sK c;clear c;have Q:=ij j;have V:Hid (W.grownBy N none):=il C.out j;have o:=ij (m9 B N b m n f1 K _ _ _ (D.out.grown j) (by simp) (by simp) (by simp));rw [J]at o;clear j;go_wp2_with fail
 refine o.out.mono ?_;clear o;rintro e y ⟨rfl,X,L,x⟩;have r:Hid (W.grownBy y none):=x.base V.out u (fun g e=>(D.out.hs.1.dom g e).1) (fun _ e=>e.elim);have P:Hid (Fr w y who m (fun g=>w.heap.size<=g)):=(O.out.stepG Q.out).step0 x;have E:=ij L;have A:=ij (uq l (.slice s l.length t) y ((S.out.pres (ip r.out)).mono r.out.size));clear L x;go_wp2_with fail
 refine A.out.mono ?_;clear A;rintro e w4 ⟨I,c⟩;obtain rfl:=sK c;clear c;generalize prnOut l=PO at*;obtain⟨ps,pe⟩:=PO;have p:=ij I;clear I;go_wp2_with (go_at_call 23;refine(yH _ _).mono ?_;rintro e w9 ⟨rfl,Y⟩;have Z:=Y.symm;subst Z)
 go_ret;exact⟨by simp,m,X,⟨E.out.1.grown p.out,E.out.2⟩,il r.out p.out,P.out.stepG p.out⟩
theorem yK(l:List Nat):(parseP l).out.length<=500:=by
 rw [mO];unfold parseR;split
 ·simp
 ·cases wholeR (partsR l) (-1) []with
  | none=>simp
  | some x=>
   simp only;split
   ·simp
   ·show x.1.length<=500
    omega
theorem yL(W:World)(B:Nat)(w:World)(b:Nat)(who:Nat->Role)(n:Int)(f:Nat->Value)(K:Nat->List (Value × Int))(s:ByteArray)
  (h:Hz B w b who n f K) (V:W.grownBy w none) (ah:W.heap.size<=B) (hs:s.size<=1048576) (ai:0<=n) (hn1:n<=9000000000000) (T:∀ c,c<5->(K c).length<=4900000000000):
  Calls Tryz.prog 13 #[pt b,.string s] w (HzG W B b (n+1) K):=by
 have a:=ij h;have R:=ij V;have N:=ij T;have G:pt b= .pointer (some ⟨b,0,none⟩):=rfl;have Q:=ij (yK (byt s));clear h V T;rw [G];go_enter Tryz.func13,Tryz.ntmps13
 go_wp2_with fail
 refine(AF s w (by omega)).mono ?_;rintro e w1 ⟨x,y,z,rfl,aa,X⟩;have ac:=ij X;have ae:=ij aa;clear X aa;have t:=ij (uo s w1 hs);rw [<-mO]at t;generalize hp:parseP (byt s)=p at*;obtain⟨out,at_,ok⟩:=p;simp only at*;clear hp;go_wp2_with (go_at_call 46;refine t.out.mono ?_)
 clear t;rintro e H ⟨x',y',z',rfl,F,D⟩;have ad:Hid (w.grownBy H none):=il ac.out D;have j:H.ownsRow (w.heap.size+1) 3 1 (.slice x y z) out.length (ints out):=iC ae.out D (fun _ e=>by cases e);have an:=iB j;have ao:=iB F;subst an;subst ao;have u:=ij (pi out out _ _ H (iV j) (iV F) (by have:=Q.out;omega));rw [show (out==out)=true by simp]at u;have P:=ij j;simp only [parV];generalize parE ok=pe at*;clear j F D;go_wp2_with (go_at_call 30;refine u.out.mono ?_)
 clear u;rintro e I ⟨rfl,E⟩;have L:Hid (w.grownBy I none):=iR ad.out E;have C:∀ q,(Value.slice x out.length z).ownBlock=some q->w.heap.size+1<=q/\who q= .other:=fun q e=>by
  have h1:=iA P.out q e;refine⟨h1,?_⟩;by_cases Z:who q= .other
  ·exact Z
  ·exact absurd (a.out.1.1.dom q Z).2 (by omega)
 have ab:=ij C;have hlow:B<=w.heap.size:=by have:=(a.out.1.1.dom b (by rw [a.out.1.1.wb];simp));omega
 have U:I.ownsRow B 3 1 (.slice x out.length z) out.length (ints out):=iK (iC P.out (iH (r:=none) E) (fun _ e=>by cases e)) (by omega);have o:=ij (lj B I b who n f K (.slice x out.length z) out.length _ (a.out.1.grown L.out) U (fun q e=>(C q e).2) ai (by omega) (by have:=N.out 0 (by omega);omega) (by have:=Q.out;omega));rw [G]at o;clear U E C;go_wp2_with (go_at_call 31;refine o.out.mono ?_)
 clear o;rintro e l ⟨⟨rv,rfl⟩,J,v,i,A,d⟩;have af:Hid (W.grownBy l none):=d.fr.base (il R.out L.out) ah (fun g e=>(a.out.1.1.dom g e).1) (fun q e=>by have:=(ab.out q e).1;have:=R.out.size;omega);have S:Hid (Hz B l b J (n+1) v i):=⟨A,fun k hk=>by rw [d.lent k hk];exact a.out.2 k hk⟩;have O:Hid (∀ c,c<5->(i c).length<=(K c).length+4):=fun c hc=>by
  by_cases e:c=0
  ·subst e;have:=d.len;omega
  ·rw [d.oth c e];omega
 have m:=ij (mK B l b J (n+1) v i A (fun c hc=>by have:=O.out c hc;have:=N.out c hc;omega));clear A d;rw [G]at m;go_wp2_with (go_at_call 27;refine m.out.mono ?_)
 clear m;rintro e w5 ⟨rfl,Y⟩;have M:Hid (l.grownBy w5 none):=iH Y;clear Y;go_wp2_with (go_at_call 23;refine(yH _ _).mono ?_;rintro e w9 ⟨rfl,al⟩;have am:=al.symm;subst am)
 go_ret;exact⟨by simp,J,v,i,⟨S.out.1.grown M.out,S.out.2⟩,il af.out M.out,O.out⟩
end
end Go.Proofs.YtklenjmfalljgabGreatDoor
