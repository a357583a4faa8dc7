/- The texts Wrt7. -/
import Derived.Test.YtklenjmfalljgabGreatDoorM24
import Derived.Test.YtklenjmfalljgabGreatDoorM26
import Derived.Lib.SlBytesConst
namespace Go.Proofs.YtklenjmfalljgabGreatDoor
set_option maxRecDepth 100000
set_option maxHeartbeats 8000000
section
open Go.RowKit
attribute [local go_sem] Go.World.cell?_alloc_some
theorem jC(n:Int):∀ x∈wInt n,x<256:=jz _
theorem oF{α:Type}(f:α->List Nat)(q:List α)(h:∀ y∈q,∀ x∈f y,x<256):∀ x∈q.flatMap f,x<256:=by
 intro x a;obtain⟨y,b,a⟩:=List.mem_flatMap.1 a;exact h y b x a
theorem jH{a b:List Nat}(c:∀ x∈a,x<256)(d:∀ x∈b,x<256):∀ x∈a++b,x<256:=by
 intro x e;rcases List.mem_append.1 e with h | h
 ·exact c x h
 ·exact d x h
theorem vw(a:Art):∀ x∈bodyB a,x<256:=by
 unfold bodyB progB schB verB;refine jH (by decide) (jH (jH (jC _) (oF _ _ fun c _=>?_)) (jH (jH (jC _) (oF _ _ fun r _=>?_)) (jH (jC _) (jH (jC _) (jC _)))))
 ·unfold codeB;refine jH (jC _) (oF _ _ fun i _=>?_);unfold insB;exact jH (jC _) (jH (jC _) (jH (jC _) (jz _)))
 ·unfold runB;exact jH (jC _) (jC _)
theorem Bk(a:Art)(tv sv:Value)(w:World)(A:ProgAt w (.agg #[tv]) a.prog)(B:IntsAt w.heap.size w sv a.sch)(u:artE a=0)(D:∀ c∈a.prog,∀ i∈c,insInt i):
  Calls Tryz.prog 64 #[artA tv sv a.ver] w fun e w'=>e= .returned (.string (bs (encB a)))/\w.grownBy w' none:=by
 have v:vProg a.prog=true:=by
  unfold artE at u;split at u<;>simp_all
 have y:validS a.sch=true/\verOk a.ver=true:=by
  rw [artE,if_pos v]at u;split at u<;>simp_all
 have J:Hid (encB a=[82,82,1]++progB a.prog++schB a.sch++verB a.ver++leB 4 (crcN ([82,82,1]++progB a.prog++schB a.sch++verB a.ver))):=by
  unfold Hid encB bodyB;simp [List.append_assoc]
 have I:Hid (∀ x∈[82,82,1]++progB a.prog++schB a.sch++verB a.ver,x<256):=by
  have:=vw a;unfold Hid;unfold bodyB at this;simpa [List.append_assoc]using this
 generalize encB a=E at*;obtain⟨p,l,d,f,h⟩:=a;simp only at A B D v y J I ⊢;have hv:=y.2;simp only [verOk,Bool.and_eq_true,decide_eq_true_eq]at hv;have G:=ij (wH v D);have Q:=ij (zg y.1);have K:=ij A;have L:=ij B;have ad:=ij v;have ae:=ij y.1;have Z:=ij D;obtain⟨m,o,t⟩:=A.form;simp only [Value.agg.injEq,Array.mk.injEq,List.cons.injEq,and_true]at t;subst t;obtain⟨j,k,rfl⟩:=B.form;clear A B u D v y;unfold artA;simp only;have X:=Lib.run_convert_bytes_const (P:=Tryz.prog) (w.alloc (.cells #[.slice m p.length o,.slice j l.length k,.int .i64 d,.int .i64 f,.int .i64 h] 56)) 147 5 #[.int .u8 82,.int .u8 82,.int .u8 1] 3 3 Tryz.underlying147 Tryz.underlying5;have U:(w.alloc (.cells #[.slice m p.length o,.slice j l.length k,.int .i64 d,.int .i64 f,.int .i64 h] 56)).heap.size=w.heap.size+1:=by simp
 rw [U]at X;go_enter Tryz.func64,Tryz.ntmps64
 go_wp2_with fail
 clear X U;have r:w.grownBy (w.alloc (.cells #[.slice m p.length o,.slice j l.length k,.int .i64 d,.int .i64 f,.int .i64 h] 56)) none:=iq (ir _ _);have q:=heap_alloc_new w (.cells #[.slice m p.length o,.slice j l.length k,.int .i64 d,.int .i64 f,.int .i64 h] 56);have F:(w.alloc (.cells #[.slice m p.length o,.slice j l.length k,.int .i64 d,.int .i64 f,.int .i64 h] 56)).heap.size=w.heap.size+1:=by simp
 generalize w.alloc (.cells #[.slice m p.length o,.slice j l.length k,.int .i64 d,.int .i64 f,.int .i64 h] 56)=W at r q F ⊢;have aa:=ij (K.out.pres (ip r));have ac:Hid (IntsAt W.heap.size W (.slice j l.length k) l):=(L.out.pres (ip r)).mono r.size;have Y:=ij r;have e0:W.cell? ⟨w.heap.size,0,none⟩=some (.slice m p.length o):=by simp [World.cell?,q]
 have t:W.cell? ⟨w.heap.size,1,none⟩=some (.slice j l.length k):=by simp [World.cell?,q]
 have R:W.cell? ⟨w.heap.size,2,none⟩=some (.int .i64 d):=by simp [World.cell?,q]
 have S:W.cell? ⟨w.heap.size,3,none⟩=some (.int .i64 f):=by simp [World.cell?,q]
 have T:W.cell? ⟨w.heap.size,4,none⟩=some (.int .i64 h):=by simp [World.cell?,q]
 have C:WrS W ((W.alloc (.cells #[.int .u8 82,.int .u8 82,.int .u8 1] 5 (3,4))).alloc (.cells #[.slice (some ⟨w.heap.size+1,0,none⟩) 3 3] 172)) (w.heap.size+1+1) (.slice (some ⟨w.heap.size+1,0,none⟩) 3 3) [82,82,1]:=by
  refine⟨?_,Or.inr ⟨w.heap.size+1,#[.int .u8 82,.int .u8 82,.int .u8 1],rfl,by omega,?_,rfl,rfl⟩,by simp [Value.ownBlock],by omega,iq (iq (ir _ _))⟩
  ·have:=heap_alloc_new (W.alloc (.cells #[.int .u8 82,.int .u8 82,.int .u8 1] 5 (3,4))) (.cells #[.slice (some ⟨w.heap.size+1,0,none⟩) 3 3] 172);simpa [F]using this
  ·rw [Below.heap_alloc _ _ _ (by simp;omega)];have:=heap_alloc_new W (.cells #[.int .u8 82,.int .u8 82,.int .u8 1] 5 (3,4));rwa [F]at this
 generalize (W.alloc (.cells #[.int .u8 82,.int .u8 82,.int .u8 1] 5 (3,4))).alloc (.cells #[.slice (some ⟨w.heap.size+1,0,none⟩) 3 3] 172)=w3 at C ⊢;generalize w.heap.size+1+1=b at C ⊢;clear r q F K L;refine(wK W b p (.agg #[.slice m p.length o]) w3 _ [82,82,1] C (by decide) aa.out ad.out Z.out).mono ?_;rintro e w4 ⟨⟨u4,rfl⟩,ag,H,ao⟩;have d1:=ip H.base _ _ t;have M:=ij H;clear H ao C e0 t;go_wp2_with fail
 refine(uy W b l (.slice j l.length k) w4 ag ([82,82,1]++progB p) M.out (by have:=G.out;simp only [List.length_append,List.length_cons,List.length_nil];omega) ac.out ae.out).mono ?_;rintro e w5 ⟨⟨u5,rfl⟩,ah,z,ap⟩;have d2:=ip z.base _ _ R;have d3:=ip z.base _ _ S;have d4:=ip z.base _ _ T;have N:=ij z;clear z ap M d1 R S T;go_wp2_with fail
 refine(xm W b (d,f,h) (by simp only;omega) (by simp only;omega) (by simp only;omega) w5 ah ([82,82,1]++progB p++schB l) N.out (by have:=G.out;have:=Q.out;simp only [List.length_append,List.length_cons,List.length_nil];omega)).mono ?_;rintro e w6 ⟨⟨u6,rfl⟩,ai,V,aq⟩;have O:=ij V;clear V aq N d2 d3 d4;have af:Hid ((verB (d,f,h)).length<=30):=by
  unfold Hid verB;have h3:=i8 (n:=d) (by omega);have h4:=i8 (n:=f) (by omega);have h5:=i8 (n:=h) (by omega);simp only [List.length_append];omega
 go_wp2_with fail
 refine(zP W b w6 ai ([82,82,1]++progB p++schB l++verB (d,f,h)) O.out (by have:=G.out;have:=Q.out;have:=af.out;simp only [List.length_append,List.length_cons,List.length_nil];omega) I.out).mono ?_;rintro e w7 ⟨⟨u7,rfl⟩,bv7,s,ar⟩;rw [<-J.out]at s;have ab:=ij s;have d5:=s.cell;have d6:=s.row.str;obtain⟨x1,x3,rfl⟩:=s.row.form;clear s ar O;go_wp2_with fail
 go_ret;exact⟨rfl,il Y.out ab.out.base⟩
theorem xR(a:Art)(tv sv:Value)(w:World)(x:ShpAt w)(n:ProgAt w (.agg #[tv]) a.prog)(o:IntsAt w.heap.size w sv a.sch)(s:artE a=0)(z:∀ c∈a.prog,∀ i∈c,insInt i):
  Calls Tryz.prog 39 #[artA tv sv a.ver] w fun e w'=>e= .returned (.tuple #[.string (bs (encB a)),.int .i64 0])/\w.grownBy w' none:=by
 have F:=n.form;obtain⟨h,j,m⟩:=F;simp only [Value.agg.injEq,Array.mk.injEq,List.cons.injEq,and_true]at m;obtain⟨d,f,r⟩:=o.form;subst m r;have b:w.grownBy (w.alloc (.cells #[.slice h a.prog.length j,.slice d a.sch.length f,.int .i64 a.ver.1,.int .i64 a.ver.2.1,.int .i64 a.ver.2.2] 56)) none:=iq (ir _ _);have p:=heap_alloc_new w (.cells #[.slice h a.prog.length j,.slice d a.sch.length f,.int .i64 a.ver.1,.int .i64 a.ver.2.1,.int .i64 a.ver.2.2] 56);have q:=ij (oe a (.slice h a.prog.length j) (.slice d a.sch.length f) _ (ShpAt.pres x (ip b)) (n.pres (ip b)) ((o.pres (ip b)).mono b.size));rw [s]at q;have B:=ij (fun(w':World) (hg:w.grownBy w' none)=>Bk a (.slice h a.prog.length j) (.slice d a.sch.length f) w' (n.pres (ip hg)) ((o.pres (ip hg)).mono hg.size) s z);clear x n o s z;unfold artA at*;go_enter Tryz.func39,Tryz.ntmps39
 go_wp2_with fail
 generalize w.alloc (.cells #[.slice h a.prog.length j,.slice d a.sch.length f,.int .i64 a.ver.1,.int .i64 a.ver.2.1,.int .i64 a.ver.2.2] 56)=W at b p q ⊢;refine q.out.mono ?_;rintro e k ⟨rfl,t⟩;have l:k.heap[w.heap.size]?=some (.cells #[.slice h a.prog.length j,.slice d a.sch.length f,.int .i64 a.ver.1,.int .i64 a.ver.2.1,.int .i64 a.ver.2.2] 56 (0,0)):=by
  rw [t.block _ (Array.getElem?_eq_some_iff.1 p).1 (by simp)];exact p
 have C:k.cell? ⟨w.heap.size,0,none⟩=some (.slice h a.prog.length j):=by simp [World.cell?,l]
 have m:k.cell? ⟨w.heap.size,1,none⟩=some (.slice d a.sch.length f):=by simp [World.cell?,l]
 have r:k.cell? ⟨w.heap.size,2,none⟩=some (.int .i64 a.ver.1):=by simp [World.cell?,l]
 have D:k.cell? ⟨w.heap.size,3,none⟩=some (.int .i64 a.ver.2.1):=by simp [World.cell?,l]
 have E:k.cell? ⟨w.heap.size,4,none⟩=some (.int .i64 a.ver.2.2):=by simp [World.cell?,l]
 have u:=ij (il b t);clear t l p b;go_wp2_with fail
 refine(B.out k u.out).mono ?_;rintro e w3 ⟨rfl,y⟩;have A:=ij (il u.out y);clear y C m r D E;go_wp2_with fail
 refine bodyPost_ret (v:= .tuple #[.string (bs (encB a)),.int .i64 0]) (by simp [results,Tryz.results39,go_sem]) rfl ?_;exact⟨rfl,A.out⟩
end
end Go.Proofs.YtklenjmfalljgabGreatDoor
