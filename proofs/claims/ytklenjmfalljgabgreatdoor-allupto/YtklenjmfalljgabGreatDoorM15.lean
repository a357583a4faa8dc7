/- The texts Fhe. -/
import Derived.Test.YtklenjmfalljgabGreatDoorM14
import Derived.Sort.Grow
import Derived.Deep.Draws
namespace Go.Proofs.YtklenjmfalljgabGreatDoor
set_option maxRecDepth 100000
set_option maxHeartbeats 8000000
section
open Go.RowKit
attribute [local go_sem] Go.World.cell?_alloc_some
theorem uC(W:World)(a b c:Obj):((W.alloc a).alloc b).drew.alloc c=Sort.grow (W.drewN 1) #[a,b,c]:=by
 have d:∀ (w:World) os,(Sort.grow w os).drew=Sort.grow w.drew os:=fun _ _=>rfl
 rw [Sort.alloc_eq_grow W a,Sort.alloc_eq_grow _ b,Sort.grow_grow,d,Sort.alloc_eq_grow _ c,Sort.grow_grow];rfl
def cmpI(x y:Int):Int:=if x<y then -1 else if y<x then 1 else 0
def orI(x y:Int):Int:=if x=0 then y else x
def cmpP(x y:Int × Int):Int:=orI (cmpI x.1 y.1) (cmpI x.2 y.2)
theorem qS(x:Int)(w:World):Calls Tryz.prog 168 #[.int .i64 x] w fun e w'=>e= .returned (.bool false)/\w'=w:=by
 go_enter Tryz.func168,Tryz.ntmps168
 go_wp2
 go_ret;exact⟨rfl,rfl⟩
theorem mC(x y:Int)(w:World):Calls Tryz.prog 130 #[.int .i64 x,.int .i64 y] w fun e w'=>e= .returned (.int .i64 (cmpI x y))/\w'=w:=by
 by_cases b:x<y
 ·have a:Hid (cmpI x y= -1):=by unfold Hid cmpI;simp [b]
  go_enter Tryz.func130,Tryz.ntmps130
  go_wp2_with (go_at_call 168;refine(qS _ _).mono ?_;rintro e w' ⟨rfl,rfl⟩)
  go_ret;exact⟨by rw [a.out];rfl,rfl⟩
 ·by_cases c:y<x
  ·have a:Hid (cmpI x y=1):=by unfold Hid cmpI;simp [b,c]
   go_enter Tryz.func130,Tryz.ntmps130
   go_wp2_with (go_at_call 168;refine(qS _ _).mono ?_;rintro e w' ⟨rfl,rfl⟩)
   go_ret;exact⟨by rw [a.out];rfl,rfl⟩
  ·have a:Hid (cmpI x y=0):=by unfold Hid cmpI;simp [b,c]
   have h3:x<=y:=by omega
   have h4:y<=x:=by omega
   go_enter Tryz.func130,Tryz.ntmps130
   go_wp2_with (go_at_call 168;refine(qS _ _).mono ?_;rintro e w' ⟨rfl,rfl⟩)
   go_ret;exact⟨by rw [a.out];rfl,rfl⟩
theorem zQ(x y:Int)(g:Nat)(w:World)(h:w.cell? ⟨g,0,none⟩=some (.int .i64 x))(j:w.cell? ⟨g,1,none⟩=some (.int .i64 y)):
  Calls Tryz.prog 129 #[.slice (some ⟨g,0,none⟩) 2 2] w fun e w'=>e= .returned (.int .i64 (orI x y))/\w'=w:=by
 have HA:=ij h;have HB:=ij j;go_enter Tryz.func129,Tryz.ntmps129
 go_wp2_with fail
 go_loopw [8] (fun i w'=>∃ k:Nat,k<=2/\i= .int .i64 k/\Hid (w'=w)/\Hid ((0<k->x=0)/\(1<k->y=0))) (fun i _=>2 - (intOf i).toNat)
 case atStart=>exact⟨0,by omega,rfl,rfl,by omega,by omega⟩
 case round=>
  obtain⟨k,hk,rfl,f,b⟩:=hrel;obtain rfl:=f.out.symm;clear f;rcases(by omega:k=0\/k=1\/k=2)with rfl | rfl | rfl
  ·by_cases c:x=0
   ·subst c;go_wp2_with fail
    go_roundw
    case rel=>exact⟨1,by omega,by go_num,(by first | exact trivial | rfl),by unfold Hid;simp⟩
    case measure=>simp [intOf]
   ·have l:(x !=0)=true:=by simpa using c
    have a:Hid (orI x y=x):=by unfold Hid orI;rw [if_neg c]
    clear c;go_wp2_with fail
    go_ret;exact⟨by rw [a.out];rfl,rfl⟩
  ·have a:Hid (orI x y=y):=by unfold Hid orI;rw [if_pos (b.out.1 (by omega))]
   by_cases d:y=0
   ·subst d;have HX:=ij (b.out.1 (by omega));go_wp2_with fail
    go_roundw
    case rel=>exact⟨2,by omega,by go_num,(by first | exact trivial | rfl),by unfold Hid;simp [HX.out]⟩
    case measure=>simp [intOf]
   ·have l:(y !=0)=true:=by simpa using d
    clear d;go_wp2_with fail
    go_ret;exact⟨by rw [a.out];rfl,rfl⟩
  ·have a:Hid (orI x y=0):=by unfold Hid orI;rw [if_pos (b.out.1 (by omega))];exact b.out.2 (by omega)
   go_wp2_with fail
   go_ret;exact⟨by rw [a.out];rfl,rfl⟩
theorem vE(x y:Int × Int)(W:World):
  Calls Tryz.prog 87 #[.agg #[.int .i64 x.1,.int .i64 x.2],.agg #[.int .i64 y.1,.int .i64 y.2]] W fun e w'=>e= .returned (.int .i64 (cmpP x y))/\∃ q os',w'=Sort.grow (W.drewN q) os':=by
 go_enter Tryz.func87,Tryz.ntmps87
 go_upto_region 1 with fail
 have l:=ij (heap_alloc_new W (.cells #[.int .i64 x.1,.int .i64 x.2] 165));have HB:=ij (heap_alloc_new (W.alloc (.cells #[.int .i64 x.1,.int .i64 x.2] 165)) (.cells #[.int .i64 y.1,.int .i64 y.2] 165));have B:(W.alloc (.cells #[.int .i64 x.1,.int .i64 x.2] 165)).heap.size=W.heap.size+1:=by simp
 rw [B]at HB;have m:Hid (((W.alloc (.cells #[.int .i64 x.1,.int .i64 x.2] 165)).alloc (.cells #[.int .i64 y.1,.int .i64 y.2] 165)).heap[W.heap.size]?=some (.cells #[.int .i64 x.1,.int .i64 x.2] 165 (0,0))):=by
  unfold Hid;rw [Below.heap_alloc _ _ _ (by simp)];exact l.out
 have E:Hid (∀ c,∃ q os',((((W.alloc (.cells #[.int .i64 x.1,.int .i64 x.2] 165)).alloc (.cells #[.int .i64 y.1,.int .i64 y.2] 165)).drew).alloc c)=Sort.grow (W.drewN q) os'):=fun c=>by
  exact⟨1,_,uC _ _ _ _⟩
 have F:((W.alloc (.cells #[.int .i64 x.1,.int .i64 x.2] 165)).alloc (.cells #[.int .i64 y.1,.int .i64 y.2] 165)).drew.cell? ⟨W.heap.size,0,none⟩=some (.int .i64 x.1)/\((W.alloc (.cells #[.int .i64 x.1,.int .i64 x.2] 165)).alloc (.cells #[.int .i64 y.1,.int .i64 y.2] 165)).drew.cell? ⟨W.heap.size,1,none⟩=some (.int .i64 x.2)/\((W.alloc (.cells #[.int .i64 x.1,.int .i64 x.2] 165)).alloc (.cells #[.int .i64 y.1,.int .i64 y.2] 165)).drew.cell? ⟨W.heap.size+1,0,none⟩=some (.int .i64 y.1)/\((W.alloc (.cells #[.int .i64 x.1,.int .i64 x.2] 165)).alloc (.cells #[.int .i64 y.1,.int .i64 y.2] 165)).drew.cell? ⟨W.heap.size+1,1,none⟩=some (.int .i64 y.2):=by
  have z:((W.alloc (.cells #[.int .i64 x.1,.int .i64 x.2] 165)).alloc (.cells #[.int .i64 y.1,.int .i64 y.2] 165)).drew.heap[W.heap.size]?=some (.cells #[.int .i64 x.1,.int .i64 x.2] 165 (0,0)):=m.out;have A:((W.alloc (.cells #[.int .i64 x.1,.int .i64 x.2] 165)).alloc (.cells #[.int .i64 y.1,.int .i64 y.2] 165)).drew.heap[W.heap.size+1]?=some (.cells #[.int .i64 y.1,.int .i64 y.2] 165 (0,0)):=HB.out;refine⟨?_,?_,?_,?_⟩
  ·simp only [World.cell?,z];rfl
  ·simp only [World.cell?,z];rfl
  ·simp only [World.cell?,A];rfl
  ·simp only [World.cell?,A];rfl
 generalize ((W.alloc (.cells #[.int .i64 x.1,.int .i64 x.2] 165)).alloc (.cells #[.int .i64 y.1,.int .i64 y.2] 165))=w2 at*;have C:Hid ((w2.drew.alloc (.cells #[.int .i64 (cmpI x.1 y.1),.int .i64 (cmpI x.2 y.2)] 3)).cell? ⟨w2.heap.size,0,none⟩=some (.int .i64 (cmpI x.1 y.1))):=by
  have h:=heap_alloc_new w2.drew (.cells #[.int .i64 (cmpI x.1 y.1),.int .i64 (cmpI x.2 y.2)] 3);unfold Hid;have k:(w2.drew.alloc (.cells #[.int .i64 (cmpI x.1 y.1),.int .i64 (cmpI x.2 y.2)] 3)).heap[w2.heap.size]?=_:=h;simp only [World.cell?,k];rfl
 have D:Hid ((w2.drew.alloc (.cells #[.int .i64 (cmpI x.1 y.1),.int .i64 (cmpI x.2 y.2)] 3)).cell? ⟨w2.heap.size,1,none⟩=some (.int .i64 (cmpI x.2 y.2))):=by
  have h:=heap_alloc_new w2.drew (.cells #[.int .i64 (cmpI x.1 y.1),.int .i64 (cmpI x.2 y.2)] 3);unfold Hid;have k:(w2.drew.alloc (.cells #[.int .i64 (cmpI x.1 y.1),.int .i64 (cmpI x.2 y.2)] 3)).heap[w2.heap.size]?=_:=h;simp only [World.cell?,k];rfl
 clear l HB m B;refine iz (fun u=>u.cell? ⟨W.heap.size,0,none⟩=some (.int .i64 x.1)/\u.cell? ⟨W.heap.size,1,none⟩=some (.int .i64 x.2)/\u.cell? ⟨W.heap.size+1,0,none⟩=some (.int .i64 y.1)/\u.cell? ⟨W.heap.size+1,1,none⟩=some (.int .i64 y.2)) 12 (by kernel_rfl) (by kernel_rfl) F ?_;intro a;refine ie 0 ?va0 rfl (by kernel_rfl) (fun _ _ _ h=>h) (by rfl) ?ya0 a ?_
 case ya0=>(rintro u ⟨b,d,f,j⟩;go_simp;try rfl)
 simp only [Act.put,List.setIfInBounds_toArray];refine ie 1 ?va1 rfl (by kernel_rfl) (fun _ _ _ h=>h) (by rfl) ?ya1 a ?_
 case ya1=>(rintro u ⟨b,d,f,j⟩;go_simp;try rfl)
 simp only [Act.put];refine ie 2 ?va2 rfl (by kernel_rfl) (fun _ _ _ h=>h) (by rfl) ?ya2 a ?_
 case ya2=>(rintro u ⟨b,d,f,j⟩;go_simp;try rfl)
 simp only [Act.put];refine ie 3 ?va3 rfl (by kernel_rfl) (fun _ _ _ h=>h) (by rfl) ?ya3 a ?_
 case ya3=>(rintro u ⟨b,d,f,j⟩;go_simp;try rfl)
 simp only [Act.put];refine ie 5 ?va5 rfl (by kernel_rfl) (fun _ _ _ h=>h) (by rfl) ?ya5 a ?_
 case ya5=>(rintro u ⟨b,d,f,j⟩;go_simp;try rfl)
 simp only [Act.put];refine ie 6 ?va6 rfl (by kernel_rfl) (fun _ _ _ h=>h) (by rfl) ?ya6 a ?_
 case ya6=>(rintro u ⟨b,d,f,j⟩;go_simp;try rfl)
 simp only [Act.put];refine ie 7 ?va7 rfl (by kernel_rfl) (fun _ _ _ h=>h) (by rfl) ?ya7 a ?_
 case ya7=>(rintro u ⟨b,d,f,j⟩;go_simp;try rfl)
 simp only [Act.put];refine ie 8 ?va8 rfl (by kernel_rfl) (fun _ _ _ h=>h) (by rfl) ?ya8 a ?_
 case ya8=>(rintro u ⟨b,d,f,j⟩;go_simp;try rfl)
 simp only [Act.put];refine iu (i:=4) rfl (by kernel_rfl) (by kernel_rfl) (by rfl) ?_;intro K4 s;have n:=ij s;clear s;go_simp;refine(mC x.1 y.1 _).mono ?_;rintro e w4 ⟨rfl,G⟩;obtain rfl:=G.symm;refine n.out _ _ a ?_;clear n;try simp only [Act.put,List.setIfInBounds_toArray]
 refine iu (i:=9) rfl (by kernel_rfl) (by kernel_rfl) (by rfl) ?_;intro K9 t;have o:=ij t;clear t;go_simp;refine(mC x.2 y.2 _).mono ?_;rintro e w9 ⟨rfl,H⟩;obtain rfl:=H.symm;refine o.out _ _ a ?_;clear o;try simp only [Act.put,List.setIfInBounds_toArray]
 refine iu (i:=10) rfl (by kernel_rfl) (by kernel_rfl) (by rfl) ?_;intro Kpa v;have p:=ij v;clear v;go_simp;refine p.out _ _ ⟨ip (iq (ir _ _)) _ _ a.1,ip (iq (ir _ _)) _ _ a.2.1,ip (iq (ir _ _)) _ _ a.2.2.1,ip (iq (ir _ _)) _ _ a.2.2.2⟩ ?_;clear p;try simp only [Act.put,List.setIfInBounds_toArray]
 refine iu (i:=11) rfl (by kernel_rfl) (by kernel_rfl) (by rfl) ?_;intro Kpb w;have r:=ij w;clear w;go_simp;refine(zQ (cmpI x.1 y.1) (cmpI x.2 y.2) _ _ (C.out) (D.out)).mono ?_;rintro e wpb ⟨rfl,I⟩;obtain rfl:=I.symm;refine r.out _ _ ⟨ip (iq (ir _ _)) _ _ a.1,ip (iq (ir _ _)) _ _ a.2.1,ip (iq (ir _ _)) _ _ a.2.2.1,ip (iq (ir _ _)) _ _ a.2.2.2⟩ ?_;clear r;try simp only [Act.put,List.setIfInBounds_toArray]
 refine iF rfl (by kernel_rfl) (by kernel_rfl) (by rfl) ?_;go_simp;go_wp2_with fail
 go_ret;exact⟨rfl,E.out _⟩
end
end Go.Proofs.YtklenjmfalljgabGreatDoor
