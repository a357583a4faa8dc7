/- The texts Wrt7. -/
import Derived.Test.YtklenjmfalljgabGreatDoorM21
import Derived.Test.YtklenjmfalljgabGreatDoorM22
import Derived.Lib.SlBytesConst
namespace Go.Proofs.YtklenjmfalljgabGreatDoor
set_option maxRecDepth 100000
set_option maxHeartbeats 8000000
section
open Go.RowKit
attribute [local go_sem] Go.World.cell?_alloc_some
theorem lm(n:Int):∀ x∈jx n,x<256:=k8 _
theorem sw{α:Type}(f:α->List Nat)(q:List α)(h:∀ y∈q,∀ x∈f y,x<256):∀ x∈q.flatMap f,x<256:=by
 intro x a;obtain⟨y,b,a⟩:=List.mem_flatMap.1 a;exact h y b x a
theorem lM{a b:List Nat}(c:∀ x∈a,x<256)(e:∀ x∈b,x<256):∀ x∈a++b,x<256:=by
 intro x d;rcases List.mem_append.1 d with h | h
 ·exact c x h
 ·exact e x h
theorem zZ(a:Art):∀ x∈mL a,x<256:=by
 unfold mL lY mz mQ;refine lM (by decide) (lM (lM (lm _) (sw _ _ fun c _=>?_)) (lM (lM (lm _) (sw _ _ fun r _=>?_)) (lM (lm _) (lM (lm _) (lm _)))))
 ·unfold jU;refine lM (lm _) (sw _ _ fun i _=>?_);unfold mu;exact lM (lm _) (lM (lm _) (lM (lm _) (k8 _)))
 ·unfold lQ;exact lM (lm _) (lm _)
theorem D0(a:Art)(tv sv:Value)(w:World)(F:ProgAt w (.agg #[tv]) a.prog)(D:IntsAt w.heap.size w sv a.sch)(v:jI a=0)(C:∀ c∈a.prog,∀ i∈c,kM i):
  Calls Tryz.prog 64 #[pO tv sv a.ver] w fun e w'=>e= .returned (.string (bs (mJ a)))/\w.grownBy w' none:=by
 have z:iV a.prog=true:=by
  unfold jI at v;split at v<;>simp_all
 have y:jd a.sch=true/\kH a.ver=true:=by
  rw [jI,if_pos z]at v;split at v<;>simp_all
 have O:Hid (mJ a=[82,82,1]++lY a.prog++mz a.sch++mQ a.ver++leB 4 (lq ([82,82,1]++lY a.prog++mz a.sch++mQ a.ver))):=by
  unfold Hid mJ mL;simp [List.append_assoc]
 have S:Hid (∀ x∈[82,82,1]++lY a.prog++mz a.sch++mQ a.ver,x<256):=by
  have:=zZ a;unfold Hid;unfold mL at this;simpa [List.append_assoc]using this
 generalize mJ a=E at*;obtain⟨p,l,h,f,d⟩:=a;simp only at F D C z y O S ⊢;have hv:=y.2;simp only [kH,Bool.and_eq_true,decide_eq_true_eq]at hv;have H:=il (zS z C);have T:=il (B9 y.1);have Q:=il F;have J:=il D;have aj:=il z;have al:=il y.1;have HI:=il C;obtain⟨o,m,t⟩:=F.form;simp only [Value.agg.injEq,Array.mk.injEq,List.cons.injEq,and_true]at t;subst t;obtain⟨j,k,rfl⟩:=D.form;clear F D v C z y;unfold pO;simp only;have N:=Lib.run_convert_bytes_const (P:=Tryz.prog) (w.alloc (.cells #[.slice o p.length m,.slice j l.length k,.int .i64 h,.int .i64 f,.int .i64 d] 56)) 147 5 #[.int .u8 82,.int .u8 82,.int .u8 1] 3 3 Tryz.underlying147 Tryz.underlying5;have L:(w.alloc (.cells #[.slice o p.length m,.slice j l.length k,.int .i64 h,.int .i64 f,.int .i64 d] 56)).heap.size=w.heap.size+1:=by simp
 rw [L]at N;go_enter Tryz.func64,Tryz.ntmps64
 go_wp2_with fail
 clear N L;have s:w.grownBy (w.alloc (.cells #[.slice o p.length m,.slice j l.length k,.int .i64 h,.int .i64 f,.int .i64 d] 56)) none:=ir (iu _ _);have q:=heap_alloc_new w (.cells #[.slice o p.length m,.slice j l.length k,.int .i64 h,.int .i64 f,.int .i64 d] 56);have B:(w.alloc (.cells #[.slice o p.length m,.slice j l.length k,.int .i64 h,.int .i64 f,.int .i64 d] 56)).heap.size=w.heap.size+1:=by simp
 generalize w.alloc (.cells #[.slice o p.length m,.slice j l.length k,.int .i64 h,.int .i64 f,.int .i64 d] 56)=W at s q B ⊢;have an:=il (Q.out.pres (iq s));have af:Hid (IntsAt W.heap.size W (.slice j l.length k) l):=(J.out.pres (iq s)).mono s.size;have ac:=il s;have e0:W.cell? ⟨w.heap.size,0,none⟩=some (.slice o p.length m):=by simp [World.cell?,q]
 have t:W.cell? ⟨w.heap.size,1,none⟩=some (.slice j l.length k):=by simp [World.cell?,q]
 have K:W.cell? ⟨w.heap.size,2,none⟩=some (.int .i64 h):=by simp [World.cell?,q]
 have V:W.cell? ⟨w.heap.size,3,none⟩=some (.int .i64 f):=by simp [World.cell?,q]
 have M:W.cell? ⟨w.heap.size,4,none⟩=some (.int .i64 d):=by simp [World.cell?,q]
 have A:WrS W ((W.alloc (.cells #[.int .u8 82,.int .u8 82,.int .u8 1] 5 (3,4))).alloc (.cells #[.slice (some ⟨w.heap.size+1,0,none⟩) 3 3] 172)) (w.heap.size+1+1) (.slice (some ⟨w.heap.size+1,0,none⟩) 3 3) [82,82,1]:=by
  refine⟨?_,Or.inr ⟨w.heap.size+1,#[.int .u8 82,.int .u8 82,.int .u8 1],rfl,by omega,?_,rfl,rfl⟩,by simp [Value.ownBlock],by omega,ir (ir (iu _ _))⟩
  ·have:=heap_alloc_new (W.alloc (.cells #[.int .u8 82,.int .u8 82,.int .u8 1] 5 (3,4))) (.cells #[.slice (some ⟨w.heap.size+1,0,none⟩) 3 3] 172);simpa [B]using this
  ·rw [Below.heap_alloc _ _ _ (by simp;omega)];have:=heap_alloc_new W (.cells #[.int .u8 82,.int .u8 82,.int .u8 1] 5 (3,4));rwa [B]at this
 generalize (W.alloc (.cells #[.int .u8 82,.int .u8 82,.int .u8 1] 5 (3,4))).alloc (.cells #[.slice (some ⟨w.heap.size+1,0,none⟩) 3 3] 172)=w3 at A ⊢;generalize w.heap.size+1+1=b at A ⊢;clear s q B Q J;refine(Av W b p (.agg #[.slice o p.length m]) w3 _ [82,82,1] A (by decide) an.out aj.out HI.out).mono ?_;rintro e w4 ⟨⟨u4,rfl⟩,ar,G,ai⟩;have d1:=iq G.base _ _ t;have X:=il G;clear G ai A e0 t;go_wp2_with fail
 refine(yn W b l (.slice j l.length k) w4 ar ([82,82,1]++lY p) X.out (by have:=H.out;simp only [List.length_append,List.length_cons,List.length_nil];omega) af.out al.out).mono ?_;rintro e w5 ⟨⟨u5,rfl⟩,ab,u,au⟩;have d2:=iq u.base _ _ K;have Z:=iq u.base _ _ V;have d4:=iq u.base _ _ M;have U:=il u;clear u au X d1 K V M;go_wp2_with fail
 refine(AV W b (h,f,d) (by simp only;omega) (by simp only;omega) (by simp only;omega) w5 ab ([82,82,1]++lY p++mz l) U.out (by have:=H.out;have:=T.out;simp only [List.length_append,List.length_cons,List.length_nil];omega)).mono ?_;rintro e w6 ⟨⟨u6,rfl⟩,av,I,Y⟩;have R:=il I;clear I Y U d2 Z d4;have ao:Hid ((mQ (h,f,d)).length<=30):=by
  unfold Hid mQ;have h3:=jM (n:=h) (by omega);have h4:=jM (n:=f) (by omega);have h5:=jM (n:=d) (by omega);simp only [List.length_append];omega
 go_wp2_with fail
 refine(Em W b w6 av ([82,82,1]++lY p++mz l++mQ (h,f,d)) R.out (by have:=H.out;have:=T.out;have:=ao.out;simp only [List.length_append,List.length_cons,List.length_nil];omega) S.out).mono ?_;rintro e w7 ⟨⟨u7,rfl⟩,bv7,r,ak⟩;rw [<-O.out]at r;have am:=il r;have d5:=r.cell;have d6:=r.row.str;obtain⟨x1,x3,rfl⟩:=r.row.form;clear r ak R;go_wp2_with fail
 go_ret;exact⟨rfl,ip ac.out am.out.base⟩
theorem Cx(a:Art)(tv sv:Value)(w:World)(z:ShpAt w)(n:ProgAt w (.agg #[tv]) a.prog)(m:IntsAt w.heap.size w sv a.sch)(q:jI a=0)(y:∀ c∈a.prog,∀ i∈c,kM i):
  Calls Tryz.prog 39 #[pO tv sv a.ver] w fun e w'=>e= .returned (.tuple #[.string (bs (mJ a)),.int .i64 0])/\w.grownBy w' none:=by
 have C:=n.form;obtain⟨b,j,o⟩:=C;simp only [Value.agg.injEq,Array.mk.injEq,List.cons.injEq,and_true]at o;obtain⟨k,f,s⟩:=m.form;subst o s;have h:w.grownBy (w.alloc (.cells #[.slice b a.prog.length j,.slice k a.sch.length f,.int .i64 a.ver.1,.int .i64 a.ver.2.1,.int .i64 a.ver.2.2] 56)) none:=ir (iu _ _);have p:=heap_alloc_new w (.cells #[.slice b a.prog.length j,.slice k a.sch.length f,.int .i64 a.ver.1,.int .i64 a.ver.2.1,.int .i64 a.ver.2.2] 56);have t:=il (tC a (.slice b a.prog.length j) (.slice k a.sch.length f) _ (ShpAt.pres z (iq h)) (n.pres (iq h)) ((m.pres (iq h)).mono h.size));rw [q]at t;have B:=il (fun(w':World) (hg:w.grownBy w' none)=>D0 a (.slice b a.prog.length j) (.slice k a.sch.length f) w' (n.pres (iq hg)) ((m.pres (iq hg)).mono hg.size) q y);clear z n m q y;unfold pO at*;go_enter Tryz.func39,Tryz.ntmps39
 go_wp2_with fail
 generalize w.alloc (.cells #[.slice b a.prog.length j,.slice k a.sch.length f,.int .i64 a.ver.1,.int .i64 a.ver.2.1,.int .i64 a.ver.2.2] 56)=W at h p t ⊢;refine t.out.mono ?_;rintro e d ⟨rfl,r⟩;have l:d.heap[w.heap.size]?=some (.cells #[.slice b a.prog.length j,.slice k a.sch.length f,.int .i64 a.ver.1,.int .i64 a.ver.2.1,.int .i64 a.ver.2.2] 56 (0,0)):=by
  rw [r.block _ (Array.getElem?_eq_some_iff.1 p).1 (by simp)];exact p
 have A:d.cell? ⟨w.heap.size,0,none⟩=some (.slice b a.prog.length j):=by simp [World.cell?,l]
 have o:d.cell? ⟨w.heap.size,1,none⟩=some (.slice k a.sch.length f):=by simp [World.cell?,l]
 have s:d.cell? ⟨w.heap.size,2,none⟩=some (.int .i64 a.ver.1):=by simp [World.cell?,l]
 have E:d.cell? ⟨w.heap.size,3,none⟩=some (.int .i64 a.ver.2.1):=by simp [World.cell?,l]
 have F:d.cell? ⟨w.heap.size,4,none⟩=some (.int .i64 a.ver.2.2):=by simp [World.cell?,l]
 have x:=il (ip h r);clear r l p h;go_wp2_with fail
 refine(B.out d x.out).mono ?_;rintro e w3 ⟨rfl,u⟩;have D:=il (ip x.out u);clear u A o s E F;go_wp2_with fail
 refine bodyPost_ret (v:= .tuple #[.string (bs (mJ a)),.int .i64 0]) (by simp [results,Tryz.results39,go_sem]) rfl ?_;exact⟨rfl,D.out⟩
end
end Go.Proofs.YtklenjmfalljgabGreatDoor
