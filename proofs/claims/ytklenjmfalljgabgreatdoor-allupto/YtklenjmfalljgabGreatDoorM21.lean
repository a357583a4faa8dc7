/- The texts Rdh Rdi Rdj Rdk Rdl Rdm. -/
import Derived.Test.YtklenjmfalljgabGreatDoorM02
import Derived.Test.YtklenjmfalljgabGreatDoorM17
import Derived.Test.YtklenjmfalljgabGreatDoorM20
namespace Go.Proofs.YtklenjmfalljgabGreatDoor
set_option maxRecDepth 100000
set_option maxHeartbeats 8000000
section
open Go.RowKit
attribute [local go_sem] Go.World.cell?_alloc_some
def i7:List Nat->List Nat->Option (Unit × List Nat)
 | [],l=>some ((),l)
 | _::_,[]=>none
 | x::xs,y::l=>if y=x then i7 xs l else none
theorem ts(xs l r:List Nat):i7 xs l=some ((),r)↔l=xs++r:=by
 induction xs generalizing l with
 | nil=>simp [i7]
 | cons x xs ih=>
  cases l with
  | nil=>simp [i7]
  | cons y l=>
   simp only [i7];by_cases h:y=x
   ·rw [if_pos h,ih,h];simp
   ·rw [if_neg h];simp [h]
theorem FN(W w:World)(b k:Nat)(s:ByteArray)(h:RdS W w b s k)(A:s.size<=9223372036854775806):
  Calls Tryz.prog 136 #[pt b] w (Rd W b s (fun _ _ _=>True) (i7 [82,82,1] ((byt s).drop k))):=by
 have I:=il h;have E:pt b= .pointer (some ⟨b,0,none⟩):=rfl;rw [E];clear h E;go_enter Tryz.func136,Tryz.ntmps136
 go_wp2_with fail
 go_loopw [3] (fun i w'=>∃ (j c:Nat),j<=3/\i= .int .i64 j/\Hid (RdS W w' b s c)/\Hid (i7 ([82,82,1].drop j) ((byt s).drop c)=i7 [82,82,1] ((byt s).drop k))) (fun i _=>3 - (intOf i).toNat)
 case atStart=>exact⟨0,k,by omega,rfl,I,il rfl⟩
 case round=>
  obtain⟨j,c,hj,rfl,v,r⟩:=hrel;obtain⟨z,H⟩:∃ z,z=wr:=⟨_,rfl⟩;rw [<-H]at v ⊢;clear H;have J:j=0\/j=1\/j=2\/j=3:=by omega
  rcases J with rfl | rfl | rfl | rfl
  ·have HX:Hid (([82,82,1]:List Nat).drop 0=82::[82,82,1].drop 1):=rfl;have F:(({ data:= #[82,82,1]}:ByteArray)[0]).toNat=82:=rfl;by_cases p:c<s.size
   ·have HB:=il (lh s c p);have n:=il (nE W z.drew b c s (v.out.grown (iz (iu _ _))) A p);generalize s[c].toNat=y at*;by_cases o:y=82
    ·have D:((y:Int)==82)=true:=by simp;omega
     have m:Hid (i7 (([82,82,1]).drop (1)) ((byt s).drop (c+1))=i7 ([82,82,1]) ((byt s).drop k)):=by
      unfold Hid;rw [<-r.out,HB.out,HX.out,i7,if_pos o]
     clear o;go_wp2_with fail
     refine iA (fun _=>True) 5 (by kernel_rfl) (by kernel_rfl) trivial ?_;intro x;refine ij 0 ?v0_1 rfl (by kernel_rfl) (fun _ _ _ h=>h) (by rfl) ?y0_1 trivial ?_
     case y0_1=>(intro u a;go_simp;try rfl)
     simp only [Act.put,List.setIfInBounds_toArray];refine ij 2 ?v2_2 rfl (by kernel_rfl) (fun _ _ _ h=>h) (by rfl) ?y2_2 trivial ?_
     case y2_2=>(intro u a;go_simp;try rfl)
     simp only [Act.put];refine ij 3 ?v3_3 rfl (by kernel_rfl) (fun _ _ _ h=>h) (by rfl) ?y3_3 trivial ?_
     case y3_3=>(intro u a;go_simp;try rfl)
     simp only [Act.put];refine iw (i:=1) rfl (by kernel_rfl) (by kernel_rfl) (by rfl) ?_;intro t d;have l:=il d;clear d;go_simp;refine n.out.mono ?_;rintro e w6 ⟨rfl,f⟩;have q:=il f;clear f;refine l.out _ _ trivial ?_;clear l;try simp only [Act.put,List.setIfInBounds_toArray]
     refine ij 4 ?v4_4 rfl (by kernel_rfl) (fun _ _ _ h=>h) (by rfl) ?y4_4 trivial ?_
     case y4_4=>(intro u a;go_simp;try rfl)
     simp only [Act.put];refine iI rfl (by kernel_rfl) (by kernel_rfl) (by rfl) ?_;go_simp;refine(j4 _).mono ?_;rintro e B ⟨⟨G,rfl⟩,rfl⟩;go_wp2_with fail
     go_roundw
     case rel=>exact⟨1,c+1,by omega,by first | rfl | go_num,q,m⟩
     case measure=>simp [intOf]
    ·have D:((y:Int)==82)=false:=by simp;omega
     have m:Hid (i7 ([82,82,1]) ((byt s).drop k)=none):=by
      unfold Hid;rw [<-r.out,HB.out,HX.out,i7,if_neg o]
     clear o;go_wp2_with fail
     refine iA (fun _=>True) 5 (by kernel_rfl) (by kernel_rfl) trivial ?_;intro x;refine ij 0 ?v0_5 rfl (by kernel_rfl) (fun _ _ _ h=>h) (by rfl) ?y0_5 trivial ?_
     case y0_5=>(intro u a;go_simp;try rfl)
     simp only [Act.put,List.setIfInBounds_toArray];refine ij 2 ?v2_6 rfl (by kernel_rfl) (fun _ _ _ h=>h) (by rfl) ?y2_6 trivial ?_
     case y2_6=>(intro u a;go_simp;try rfl)
     simp only [Act.put];refine ij 3 ?v3_7 rfl (by kernel_rfl) (fun _ _ _ h=>h) (by rfl) ?y3_7 trivial ?_
     case y3_7=>(intro u a;go_simp;try rfl)
     simp only [Act.put];refine iw (i:=1) rfl (by kernel_rfl) (by kernel_rfl) (by rfl) ?_;intro t d;have l:=il d;clear d;go_simp;refine n.out.mono ?_;rintro e w6 ⟨rfl,f⟩;have q:=il f;clear f;refine l.out _ _ trivial ?_;clear l;try simp only [Act.put,List.setIfInBounds_toArray]
     refine ij 4 ?v4_8 rfl (by kernel_rfl) (fun _ _ _ h=>h) (by rfl) ?y4_8 trivial ?_
     case y4_8=>(intro u a;go_simp;try rfl)
     simp only [Act.put];refine iI rfl (by kernel_rfl) (by kernel_rfl) (by rfl) ?_;go_simp;refine(jL _).mono ?_;rintro e B ⟨rfl,rfl⟩;exact⟨rfl,Or.inl ⟨m.out,rfl,q.out.base⟩⟩
   ·have C:Hid ((byt s).drop c=[]):=List.drop_eq_nil_iff.2 (by rw [iT];omega);have n:=il (nG W z.drew b c s (v.out.grown (iz (iu _ _))) A p);have m:Hid (i7 ([82,82,1]) ((byt s).drop k)=none):=by
     unfold Hid;rw [<-r.out,C.out,HX.out,i7]
    go_wp2_with fail
    refine iA (fun _=>True) 5 (by kernel_rfl) (by kernel_rfl) trivial ?_;intro x;refine ij 0 ?v0_9 rfl (by kernel_rfl) (fun _ _ _ h=>h) (by rfl) ?y0_9 trivial ?_
    case y0_9=>(intro u a;go_simp;try rfl)
    simp only [Act.put,List.setIfInBounds_toArray];refine ij 2 ?v2_10 rfl (by kernel_rfl) (fun _ _ _ h=>h) (by rfl) ?y2_10 trivial ?_
    case y2_10=>(intro u a;go_simp;try rfl)
    simp only [Act.put];refine ij 3 ?v3_11 rfl (by kernel_rfl) (fun _ _ _ h=>h) (by rfl) ?y3_11 trivial ?_
    case y3_11=>(intro u a;go_simp;try rfl)
    simp only [Act.put];refine iw (i:=1) rfl (by kernel_rfl) (by kernel_rfl) (by rfl) ?_;intro t d;have l:=il d;clear d;go_simp;refine n.out.mono ?_;rintro e w6 ⟨rfl,f⟩;exact⟨rfl,Or.inl ⟨m.out,rfl,f⟩⟩
  ·have HX:Hid (([82,82,1]:List Nat).drop 1=82::[82,82,1].drop 2):=rfl;have F:(({ data:= #[82,82,1]}:ByteArray)[1]).toNat=82:=rfl;by_cases p:c<s.size
   ·have HB:=il (lh s c p);have n:=il (nE W z.drew b c s (v.out.grown (iz (iu _ _))) A p);generalize s[c].toNat=y at*;by_cases o:y=82
    ·have D:((y:Int)==82)=true:=by simp;omega
     have m:Hid (i7 (([82,82,1]).drop (2)) ((byt s).drop (c+1))=i7 ([82,82,1]) ((byt s).drop k)):=by
      unfold Hid;rw [<-r.out,HB.out,HX.out,i7,if_pos o]
     clear o;go_wp2_with fail
     refine iA (fun _=>True) 5 (by kernel_rfl) (by kernel_rfl) trivial ?_;intro x;refine ij 0 ?v0_12 rfl (by kernel_rfl) (fun _ _ _ h=>h) (by rfl) ?y0_12 trivial ?_
     case y0_12=>(intro u a;go_simp;try rfl)
     simp only [Act.put,List.setIfInBounds_toArray];refine ij 2 ?v2_13 rfl (by kernel_rfl) (fun _ _ _ h=>h) (by rfl) ?y2_13 trivial ?_
     case y2_13=>(intro u a;go_simp;try rfl)
     simp only [Act.put];refine ij 3 ?v3_14 rfl (by kernel_rfl) (fun _ _ _ h=>h) (by rfl) ?y3_14 trivial ?_
     case y3_14=>(intro u a;go_simp;try rfl)
     simp only [Act.put];refine iw (i:=1) rfl (by kernel_rfl) (by kernel_rfl) (by rfl) ?_;intro t d;have l:=il d;clear d;go_simp;refine n.out.mono ?_;rintro e w6 ⟨rfl,f⟩;have q:=il f;clear f;refine l.out _ _ trivial ?_;clear l;try simp only [Act.put,List.setIfInBounds_toArray]
     refine ij 4 ?v4_15 rfl (by kernel_rfl) (fun _ _ _ h=>h) (by rfl) ?y4_15 trivial ?_
     case y4_15=>(intro u a;go_simp;try rfl)
     simp only [Act.put];refine iI rfl (by kernel_rfl) (by kernel_rfl) (by rfl) ?_;go_simp;refine(j4 _).mono ?_;rintro e B ⟨⟨G,rfl⟩,rfl⟩;go_wp2_with fail
     go_roundw
     case rel=>exact⟨2,c+1,by omega,by first | rfl | go_num,q,m⟩
     case measure=>simp [intOf]
    ·have D:((y:Int)==82)=false:=by simp;omega
     have m:Hid (i7 ([82,82,1]) ((byt s).drop k)=none):=by
      unfold Hid;rw [<-r.out,HB.out,HX.out,i7,if_neg o]
     clear o;go_wp2_with fail
     refine iA (fun _=>True) 5 (by kernel_rfl) (by kernel_rfl) trivial ?_;intro x;refine ij 0 ?v0_16 rfl (by kernel_rfl) (fun _ _ _ h=>h) (by rfl) ?y0_16 trivial ?_
     case y0_16=>(intro u a;go_simp;try rfl)
     simp only [Act.put,List.setIfInBounds_toArray];refine ij 2 ?v2_17 rfl (by kernel_rfl) (fun _ _ _ h=>h) (by rfl) ?y2_17 trivial ?_
     case y2_17=>(intro u a;go_simp;try rfl)
     simp only [Act.put];refine ij 3 ?v3_18 rfl (by kernel_rfl) (fun _ _ _ h=>h) (by rfl) ?y3_18 trivial ?_
     case y3_18=>(intro u a;go_simp;try rfl)
     simp only [Act.put];refine iw (i:=1) rfl (by kernel_rfl) (by kernel_rfl) (by rfl) ?_;intro t d;have l:=il d;clear d;go_simp;refine n.out.mono ?_;rintro e w6 ⟨rfl,f⟩;have q:=il f;clear f;refine l.out _ _ trivial ?_;clear l;try simp only [Act.put,List.setIfInBounds_toArray]
     refine ij 4 ?v4_19 rfl (by kernel_rfl) (fun _ _ _ h=>h) (by rfl) ?y4_19 trivial ?_
     case y4_19=>(intro u a;go_simp;try rfl)
     simp only [Act.put];refine iI rfl (by kernel_rfl) (by kernel_rfl) (by rfl) ?_;go_simp;refine(jL _).mono ?_;rintro e B ⟨rfl,rfl⟩;exact⟨rfl,Or.inl ⟨m.out,rfl,q.out.base⟩⟩
   ·have C:Hid ((byt s).drop c=[]):=List.drop_eq_nil_iff.2 (by rw [iT];omega);have n:=il (nG W z.drew b c s (v.out.grown (iz (iu _ _))) A p);have m:Hid (i7 ([82,82,1]) ((byt s).drop k)=none):=by
     unfold Hid;rw [<-r.out,C.out,HX.out,i7]
    go_wp2_with fail
    refine iA (fun _=>True) 5 (by kernel_rfl) (by kernel_rfl) trivial ?_;intro x;refine ij 0 ?v0_20 rfl (by kernel_rfl) (fun _ _ _ h=>h) (by rfl) ?y0_20 trivial ?_
    case y0_20=>(intro u a;go_simp;try rfl)
    simp only [Act.put,List.setIfInBounds_toArray];refine ij 2 ?v2_21 rfl (by kernel_rfl) (fun _ _ _ h=>h) (by rfl) ?y2_21 trivial ?_
    case y2_21=>(intro u a;go_simp;try rfl)
    simp only [Act.put];refine ij 3 ?v3_22 rfl (by kernel_rfl) (fun _ _ _ h=>h) (by rfl) ?y3_22 trivial ?_
    case y3_22=>(intro u a;go_simp;try rfl)
    simp only [Act.put];refine iw (i:=1) rfl (by kernel_rfl) (by kernel_rfl) (by rfl) ?_;intro t d;have l:=il d;clear d;go_simp;refine n.out.mono ?_;rintro e w6 ⟨rfl,f⟩;exact⟨rfl,Or.inl ⟨m.out,rfl,f⟩⟩
  ·have HX:Hid (([82,82,1]:List Nat).drop 2=1::[82,82,1].drop 3):=rfl;have F:(({ data:= #[82,82,1]}:ByteArray)[2]).toNat=1:=rfl;by_cases p:c<s.size
   ·have HB:=il (lh s c p);have n:=il (nE W z.drew b c s (v.out.grown (iz (iu _ _))) A p);generalize s[c].toNat=y at*;by_cases o:y=1
    ·have D:((y:Int)==1)=true:=by simp;omega
     have m:Hid (i7 (([82,82,1]).drop (3)) ((byt s).drop (c+1))=i7 ([82,82,1]) ((byt s).drop k)):=by
      unfold Hid;rw [<-r.out,HB.out,HX.out,i7,if_pos o]
     clear o;go_wp2_with fail
     refine iA (fun _=>True) 5 (by kernel_rfl) (by kernel_rfl) trivial ?_;intro x;refine ij 0 ?v0_23 rfl (by kernel_rfl) (fun _ _ _ h=>h) (by rfl) ?y0_23 trivial ?_
     case y0_23=>(intro u a;go_simp;try rfl)
     simp only [Act.put,List.setIfInBounds_toArray];refine ij 2 ?v2_24 rfl (by kernel_rfl) (fun _ _ _ h=>h) (by rfl) ?y2_24 trivial ?_
     case y2_24=>(intro u a;go_simp;try rfl)
     simp only [Act.put];refine ij 3 ?v3_25 rfl (by kernel_rfl) (fun _ _ _ h=>h) (by rfl) ?y3_25 trivial ?_
     case y3_25=>(intro u a;go_simp;try rfl)
     simp only [Act.put];refine iw (i:=1) rfl (by kernel_rfl) (by kernel_rfl) (by rfl) ?_;intro t d;have l:=il d;clear d;go_simp;refine n.out.mono ?_;rintro e w6 ⟨rfl,f⟩;have q:=il f;clear f;refine l.out _ _ trivial ?_;clear l;try simp only [Act.put,List.setIfInBounds_toArray]
     refine ij 4 ?v4_26 rfl (by kernel_rfl) (fun _ _ _ h=>h) (by rfl) ?y4_26 trivial ?_
     case y4_26=>(intro u a;go_simp;try rfl)
     simp only [Act.put];refine iI rfl (by kernel_rfl) (by kernel_rfl) (by rfl) ?_;go_simp;refine(j4 _).mono ?_;rintro e B ⟨⟨G,rfl⟩,rfl⟩;go_wp2_with fail
     go_roundw
     case rel=>exact⟨3,c+1,by omega,by first | rfl | go_num,q,m⟩
     case measure=>simp [intOf]
    ·have D:((y:Int)==1)=false:=by simp;omega
     have m:Hid (i7 ([82,82,1]) ((byt s).drop k)=none):=by
      unfold Hid;rw [<-r.out,HB.out,HX.out,i7,if_neg o]
     clear o;go_wp2_with fail
     refine iA (fun _=>True) 5 (by kernel_rfl) (by kernel_rfl) trivial ?_;intro x;refine ij 0 ?v0_27 rfl (by kernel_rfl) (fun _ _ _ h=>h) (by rfl) ?y0_27 trivial ?_
     case y0_27=>(intro u a;go_simp;try rfl)
     simp only [Act.put,List.setIfInBounds_toArray];refine ij 2 ?v2_28 rfl (by kernel_rfl) (fun _ _ _ h=>h) (by rfl) ?y2_28 trivial ?_
     case y2_28=>(intro u a;go_simp;try rfl)
     simp only [Act.put];refine ij 3 ?v3_29 rfl (by kernel_rfl) (fun _ _ _ h=>h) (by rfl) ?y3_29 trivial ?_
     case y3_29=>(intro u a;go_simp;try rfl)
     simp only [Act.put];refine iw (i:=1) rfl (by kernel_rfl) (by kernel_rfl) (by rfl) ?_;intro t d;have l:=il d;clear d;go_simp;refine n.out.mono ?_;rintro e w6 ⟨rfl,f⟩;have q:=il f;clear f;refine l.out _ _ trivial ?_;clear l;try simp only [Act.put,List.setIfInBounds_toArray]
     refine ij 4 ?v4_30 rfl (by kernel_rfl) (fun _ _ _ h=>h) (by rfl) ?y4_30 trivial ?_
     case y4_30=>(intro u a;go_simp;try rfl)
     simp only [Act.put];refine iI rfl (by kernel_rfl) (by kernel_rfl) (by rfl) ?_;go_simp;refine(jL _).mono ?_;rintro e B ⟨rfl,rfl⟩;exact⟨rfl,Or.inl ⟨m.out,rfl,q.out.base⟩⟩
   ·have C:Hid ((byt s).drop c=[]):=List.drop_eq_nil_iff.2 (by rw [iT];omega);have n:=il (nG W z.drew b c s (v.out.grown (iz (iu _ _))) A p);have m:Hid (i7 ([82,82,1]) ((byt s).drop k)=none):=by
     unfold Hid;rw [<-r.out,C.out,HX.out,i7]
    go_wp2_with fail
    refine iA (fun _=>True) 5 (by kernel_rfl) (by kernel_rfl) trivial ?_;intro x;refine ij 0 ?v0_31 rfl (by kernel_rfl) (fun _ _ _ h=>h) (by rfl) ?y0_31 trivial ?_
    case y0_31=>(intro u a;go_simp;try rfl)
    simp only [Act.put,List.setIfInBounds_toArray];refine ij 2 ?v2_32 rfl (by kernel_rfl) (fun _ _ _ h=>h) (by rfl) ?y2_32 trivial ?_
    case y2_32=>(intro u a;go_simp;try rfl)
    simp only [Act.put];refine ij 3 ?v3_33 rfl (by kernel_rfl) (fun _ _ _ h=>h) (by rfl) ?y3_33 trivial ?_
    case y3_33=>(intro u a;go_simp;try rfl)
    simp only [Act.put];refine iw (i:=1) rfl (by kernel_rfl) (by kernel_rfl) (by rfl) ?_;intro t d;have l:=il d;clear d;go_simp;refine n.out.mono ?_;rintro e w6 ⟨rfl,f⟩;exact⟨rfl,Or.inl ⟨m.out,rfl,f⟩⟩
  ·have m:Hid (i7 [82,82,1] ((byt s).drop k)=some ((),(byt s).drop c)):=by
    unfold Hid;rw [<-r.out];rfl
   go_wp2_with fail
   go_end0
   exact Or.inr ⟨(),_,_,c,m.out,rfl,trivial,v.out,rfl⟩
theorem CA(s:ByteArray)(k:Nat)(_h:k<=s.size):byt (s.extract 0 k)=(byt s).take k:=by
 unfold byt;rw [ByteArray.data_extract,Array.toList_extract,List.map_take];simp
theorem DW(W w:World)(b k:Nat)(s:ByteArray)(h:RdS W w b s k)(B:s.size<=9223372036854775806):
  Calls Tryz.prog 140 #[pt b] w (Rd W b s (fun _ _ _=>True) (i7 (leB 4 (lq ((byt s).take k))) ((byt s).drop k))):=by
 have G:=il h;have K:pt b= .pointer (some ⟨b,0,none⟩):=rfl;rw [K];clear h K;have c0:=G.out.c0;have c1:=G.out.c1;have q0:(0:Int)<=(k:Int):=by omega
 have q1:(k:Int)<=s.size:=by have:=G.out.le;omega
 have P:k<=s.size:=G.out.le;have L:=il (uz (s.extract 0 k) w.drew (by simp;omega));rw [CA s k P]at L;have hC:lq ((byt s).take k)<4294967296:=zK _ (fun x hx=>vB s x (List.mem_of_mem_take hx));generalize lq ((byt s).take k)=C at*;go_enter Tryz.func140,Tryz.ntmps140
 go_wp2_with fail
 go_still_tail 9,(by kernel_rfl)
 have N:Hid (RdS W w.drew b s k):=G.out.grown (iz (iu _ _));clear c0 c1 G;go_wp2_with (go_at_call 135;refine L.out.mono ?_;rintro e w2 ⟨rfl,J⟩;have O:=il (N.out.grown (iL J));clear J)
 go_loopw [14] (fun i w'=>∃ (j c:Nat),j<=4/\i= .int .i64 j/\Hid (RdS W w' b s c)/\Hid (i7 ((leB 4 C).drop j) ((byt s).drop c)=i7 (leB 4 C) ((byt s).drop k))) (fun i _=>4 - (intOf i).toNat)
 case atStart=>exact⟨0,k,by omega,rfl,O,il rfl⟩
 case round=>
  obtain⟨j,c,hj,rfl,z,r⟩:=hrel;obtain⟨A,M⟩:∃ A,A=wr:=⟨_,rfl⟩;rw [<-M]at z ⊢;clear M;have Q:j=0\/j=1\/j=2\/j=3\/j=4:=by omega
  rcases Q with rfl | rfl | rfl | rfl | rfl
  ·have HX:Hid ((leB 4 C).drop 0=(C % 256)::(leB 4 C).drop 1):=by unfold Hid;simp [leB,Nat.div_div_eq_div_mul]
   have H:IntKind.i64.wrap 0=0:=by decide
   by_cases p:c<s.size
   ·have HB:=il (lh s c p);have n:=il (nE W A.drew b c s (z.out.grown (iz (iu _ _))) B p);generalize s[c].toNat=y at*;by_cases o:y=C % 256
    ·have E:((y:Int)==IntKind.u8.wrap ((C:Int)))=true:=by rw [IntKind.wrap_u8'];simp;omega
     have m:Hid (i7 ((leB 4 C).drop (1)) ((byt s).drop (c+1))=i7 (leB 4 C) ((byt s).drop k)):=by
      unfold Hid;rw [<-r.out,HB.out,HX.out,i7,if_pos o]
     clear o;go_wp2_with fail
     refine iA (fun _=>True) 8 (by kernel_rfl) (by kernel_rfl) trivial ?_;intro t;refine ij 0 ?v0_1 rfl (by kernel_rfl) (fun _ _ _ h=>h) (by rfl) ?y0_1 trivial ?_
     case y0_1=>(intro u a;go_simp;try rfl)
     simp only [Act.put,List.setIfInBounds_toArray];refine ij 2 ?v2_2 rfl (by kernel_rfl) (fun _ _ _ h=>h) (by rfl) ?y2_2 trivial ?_
     case y2_2=>(intro u a;go_simp;try rfl)
     simp only [Act.put];refine ij 3 ?v3_3 rfl (by kernel_rfl) (fun _ _ _ h=>h) (by rfl) ?y3_3 trivial ?_
     case y3_3=>(intro u a;go_simp;try rfl)
     simp only [Act.put];refine ij 4 ?v4_4 rfl (by kernel_rfl) (fun _ _ _ h=>h) (by rfl) ?y4_4 trivial ?_
     case y4_4=>(intro u a;go_simp;try rfl)
     simp only [Act.put];refine ij 5 ?v5_5 rfl (by kernel_rfl) (fun _ _ _ h=>h) (by rfl) ?y5_5 trivial ?_
     case y5_5=>(intro u a;go_simp;try rfl)
     simp only [Act.put];refine ij 6 ?v6_6 rfl (by kernel_rfl) (fun _ _ _ h=>h) (by rfl) ?y6_6 trivial ?_
     case y6_6=>(intro u a;go_simp;try rfl)
     simp only [Act.put];refine iw (i:=1) rfl (by kernel_rfl) (by kernel_rfl) (by rfl) ?_;intro v d;have l:=il d;clear d;go_simp;refine n.out.mono ?_;rintro e w6 ⟨rfl,f⟩;have q:=il f;clear f;refine l.out _ _ trivial ?_;clear l;try simp only [Act.put,List.setIfInBounds_toArray]
     refine ij 7 ?v7_7 rfl (by kernel_rfl) (fun _ _ _ h=>h) (by rfl) ?y7_7 trivial ?_
     case y7_7=>(intro u a;go_simp;try rfl)
     simp only [Act.put];refine iI rfl (by kernel_rfl) (by kernel_rfl) (by rfl) ?_;go_simp;refine(j4 _).mono ?_;rintro e D ⟨⟨I,rfl⟩,rfl⟩;go_wp2_with fail
     go_roundw
     case rel=>exact⟨1,c+1,by omega,by first | rfl | go_num,q,m⟩
     case measure=>simp [intOf]
    ·have E:((y:Int)==IntKind.u8.wrap ((C:Int)))=false:=by rw [IntKind.wrap_u8'];simp;omega
     have m:Hid (i7 (leB 4 C) ((byt s).drop k)=none):=by
      unfold Hid;rw [<-r.out,HB.out,HX.out,i7,if_neg o]
     clear o;go_wp2_with fail
     refine iA (fun _=>True) 8 (by kernel_rfl) (by kernel_rfl) trivial ?_;intro t;refine ij 0 ?v0_8 rfl (by kernel_rfl) (fun _ _ _ h=>h) (by rfl) ?y0_8 trivial ?_
     case y0_8=>(intro u a;go_simp;try rfl)
     simp only [Act.put,List.setIfInBounds_toArray];refine ij 2 ?v2_9 rfl (by kernel_rfl) (fun _ _ _ h=>h) (by rfl) ?y2_9 trivial ?_
     case y2_9=>(intro u a;go_simp;try rfl)
     simp only [Act.put];refine ij 3 ?v3_10 rfl (by kernel_rfl) (fun _ _ _ h=>h) (by rfl) ?y3_10 trivial ?_
     case y3_10=>(intro u a;go_simp;try rfl)
     simp only [Act.put];refine ij 4 ?v4_11 rfl (by kernel_rfl) (fun _ _ _ h=>h) (by rfl) ?y4_11 trivial ?_
     case y4_11=>(intro u a;go_simp;try rfl)
     simp only [Act.put];refine ij 5 ?v5_12 rfl (by kernel_rfl) (fun _ _ _ h=>h) (by rfl) ?y5_12 trivial ?_
     case y5_12=>(intro u a;go_simp;try rfl)
     simp only [Act.put];refine ij 6 ?v6_13 rfl (by kernel_rfl) (fun _ _ _ h=>h) (by rfl) ?y6_13 trivial ?_
     case y6_13=>(intro u a;go_simp;try rfl)
     simp only [Act.put];refine iw (i:=1) rfl (by kernel_rfl) (by kernel_rfl) (by rfl) ?_;intro v d;have l:=il d;clear d;go_simp;refine n.out.mono ?_;rintro e w6 ⟨rfl,f⟩;have q:=il f;clear f;refine l.out _ _ trivial ?_;clear l;try simp only [Act.put,List.setIfInBounds_toArray]
     refine ij 7 ?v7_14 rfl (by kernel_rfl) (fun _ _ _ h=>h) (by rfl) ?y7_14 trivial ?_
     case y7_14=>(intro u a;go_simp;try rfl)
     simp only [Act.put];refine iI rfl (by kernel_rfl) (by kernel_rfl) (by rfl) ?_;go_simp;refine(jL _).mono ?_;rintro e D ⟨rfl,rfl⟩;exact⟨rfl,Or.inl ⟨m.out,rfl,q.out.base⟩⟩
   ·have F:Hid ((byt s).drop c=[]):=List.drop_eq_nil_iff.2 (by rw [iT];omega);have n:=il (nG W A.drew b c s (z.out.grown (iz (iu _ _))) B p);have m:Hid (i7 (leB 4 C) ((byt s).drop k)=none):=by
     unfold Hid;rw [<-r.out,F.out,HX.out,i7]
    go_wp2_with fail
    refine iA (fun _=>True) 8 (by kernel_rfl) (by kernel_rfl) trivial ?_;intro t;refine ij 0 ?v0_15 rfl (by kernel_rfl) (fun _ _ _ h=>h) (by rfl) ?y0_15 trivial ?_
    case y0_15=>(intro u a;go_simp;try rfl)
    simp only [Act.put,List.setIfInBounds_toArray];refine ij 2 ?v2_16 rfl (by kernel_rfl) (fun _ _ _ h=>h) (by rfl) ?y2_16 trivial ?_
    case y2_16=>(intro u a;go_simp;try rfl)
    simp only [Act.put];refine ij 3 ?v3_17 rfl (by kernel_rfl) (fun _ _ _ h=>h) (by rfl) ?y3_17 trivial ?_
    case y3_17=>(intro u a;go_simp;try rfl)
    simp only [Act.put];refine ij 4 ?v4_18 rfl (by kernel_rfl) (fun _ _ _ h=>h) (by rfl) ?y4_18 trivial ?_
    case y4_18=>(intro u a;go_simp;try rfl)
    simp only [Act.put];refine ij 5 ?v5_19 rfl (by kernel_rfl) (fun _ _ _ h=>h) (by rfl) ?y5_19 trivial ?_
    case y5_19=>(intro u a;go_simp;try rfl)
    simp only [Act.put];refine ij 6 ?v6_20 rfl (by kernel_rfl) (fun _ _ _ h=>h) (by rfl) ?y6_20 trivial ?_
    case y6_20=>(intro u a;go_simp;try rfl)
    simp only [Act.put];refine iw (i:=1) rfl (by kernel_rfl) (by kernel_rfl) (by rfl) ?_;intro v d;have l:=il d;clear d;go_simp;refine n.out.mono ?_;rintro e w6 ⟨rfl,f⟩;exact⟨rfl,Or.inl ⟨m.out,rfl,f⟩⟩
  ·have HX:Hid ((leB 4 C).drop 1=(C / 256 % 256)::(leB 4 C).drop 2):=by unfold Hid;simp [leB,Nat.div_div_eq_div_mul]
   have H:IntKind.i64.wrap 8=8:=by decide
   by_cases p:c<s.size
   ·have HB:=il (lh s c p);have n:=il (nE W A.drew b c s (z.out.grown (iz (iu _ _))) B p);generalize s[c].toNat=y at*;by_cases o:y=C / 256 % 256
    ·have E:((y:Int)==IntKind.u8.wrap ((C:Int) / 256))=true:=by rw [IntKind.wrap_u8'];simp;omega
     have m:Hid (i7 ((leB 4 C).drop (2)) ((byt s).drop (c+1))=i7 (leB 4 C) ((byt s).drop k)):=by
      unfold Hid;rw [<-r.out,HB.out,HX.out,i7,if_pos o]
     clear o;go_wp2_with fail
     refine iA (fun _=>True) 8 (by kernel_rfl) (by kernel_rfl) trivial ?_;intro t;refine ij 0 ?v0_21 rfl (by kernel_rfl) (fun _ _ _ h=>h) (by rfl) ?y0_21 trivial ?_
     case y0_21=>(intro u a;go_simp;try rfl)
     simp only [Act.put,List.setIfInBounds_toArray];refine ij 2 ?v2_22 rfl (by kernel_rfl) (fun _ _ _ h=>h) (by rfl) ?y2_22 trivial ?_
     case y2_22=>(intro u a;go_simp;try rfl)
     simp only [Act.put];refine ij 3 ?v3_23 rfl (by kernel_rfl) (fun _ _ _ h=>h) (by rfl) ?y3_23 trivial ?_
     case y3_23=>(intro u a;go_simp;try rfl)
     simp only [Act.put];refine ij 4 ?v4_24 rfl (by kernel_rfl) (fun _ _ _ h=>h) (by rfl) ?y4_24 trivial ?_
     case y4_24=>(intro u a;go_simp;try rfl)
     simp only [Act.put];refine ij 5 ?v5_25 rfl (by kernel_rfl) (fun _ _ _ h=>h) (by rfl) ?y5_25 trivial ?_
     case y5_25=>(intro u a;go_simp;try rfl)
     simp only [Act.put];refine ij 6 ?v6_26 rfl (by kernel_rfl) (fun _ _ _ h=>h) (by rfl) ?y6_26 trivial ?_
     case y6_26=>(intro u a;go_simp;try rfl)
     simp only [Act.put];refine iw (i:=1) rfl (by kernel_rfl) (by kernel_rfl) (by rfl) ?_;intro v d;have l:=il d;clear d;go_simp;refine n.out.mono ?_;rintro e w6 ⟨rfl,f⟩;have q:=il f;clear f;refine l.out _ _ trivial ?_;clear l;try simp only [Act.put,List.setIfInBounds_toArray]
     refine ij 7 ?v7_27 rfl (by kernel_rfl) (fun _ _ _ h=>h) (by rfl) ?y7_27 trivial ?_
     case y7_27=>(intro u a;go_simp;try rfl)
     simp only [Act.put];refine iI rfl (by kernel_rfl) (by kernel_rfl) (by rfl) ?_;go_simp;refine(j4 _).mono ?_;rintro e D ⟨⟨I,rfl⟩,rfl⟩;go_wp2_with fail
     go_roundw
     case rel=>exact⟨2,c+1,by omega,by first | rfl | go_num,q,m⟩
     case measure=>simp [intOf]
    ·have E:((y:Int)==IntKind.u8.wrap ((C:Int) / 256))=false:=by rw [IntKind.wrap_u8'];simp;omega
     have m:Hid (i7 (leB 4 C) ((byt s).drop k)=none):=by
      unfold Hid;rw [<-r.out,HB.out,HX.out,i7,if_neg o]
     clear o;go_wp2_with fail
     refine iA (fun _=>True) 8 (by kernel_rfl) (by kernel_rfl) trivial ?_;intro t;refine ij 0 ?v0_28 rfl (by kernel_rfl) (fun _ _ _ h=>h) (by rfl) ?y0_28 trivial ?_
     case y0_28=>(intro u a;go_simp;try rfl)
     simp only [Act.put,List.setIfInBounds_toArray];refine ij 2 ?v2_29 rfl (by kernel_rfl) (fun _ _ _ h=>h) (by rfl) ?y2_29 trivial ?_
     case y2_29=>(intro u a;go_simp;try rfl)
     simp only [Act.put];refine ij 3 ?v3_30 rfl (by kernel_rfl) (fun _ _ _ h=>h) (by rfl) ?y3_30 trivial ?_
     case y3_30=>(intro u a;go_simp;try rfl)
     simp only [Act.put];refine ij 4 ?v4_31 rfl (by kernel_rfl) (fun _ _ _ h=>h) (by rfl) ?y4_31 trivial ?_
     case y4_31=>(intro u a;go_simp;try rfl)
     simp only [Act.put];refine ij 5 ?v5_32 rfl (by kernel_rfl) (fun _ _ _ h=>h) (by rfl) ?y5_32 trivial ?_
     case y5_32=>(intro u a;go_simp;try rfl)
     simp only [Act.put];refine ij 6 ?v6_33 rfl (by kernel_rfl) (fun _ _ _ h=>h) (by rfl) ?y6_33 trivial ?_
     case y6_33=>(intro u a;go_simp;try rfl)
     simp only [Act.put];refine iw (i:=1) rfl (by kernel_rfl) (by kernel_rfl) (by rfl) ?_;intro v d;have l:=il d;clear d;go_simp;refine n.out.mono ?_;rintro e w6 ⟨rfl,f⟩;have q:=il f;clear f;refine l.out _ _ trivial ?_;clear l;try simp only [Act.put,List.setIfInBounds_toArray]
     refine ij 7 ?v7_34 rfl (by kernel_rfl) (fun _ _ _ h=>h) (by rfl) ?y7_34 trivial ?_
     case y7_34=>(intro u a;go_simp;try rfl)
     simp only [Act.put];refine iI rfl (by kernel_rfl) (by kernel_rfl) (by rfl) ?_;go_simp;refine(jL _).mono ?_;rintro e D ⟨rfl,rfl⟩;exact⟨rfl,Or.inl ⟨m.out,rfl,q.out.base⟩⟩
   ·have F:Hid ((byt s).drop c=[]):=List.drop_eq_nil_iff.2 (by rw [iT];omega);have n:=il (nG W A.drew b c s (z.out.grown (iz (iu _ _))) B p);have m:Hid (i7 (leB 4 C) ((byt s).drop k)=none):=by
     unfold Hid;rw [<-r.out,F.out,HX.out,i7]
    go_wp2_with fail
    refine iA (fun _=>True) 8 (by kernel_rfl) (by kernel_rfl) trivial ?_;intro t;refine ij 0 ?v0_35 rfl (by kernel_rfl) (fun _ _ _ h=>h) (by rfl) ?y0_35 trivial ?_
    case y0_35=>(intro u a;go_simp;try rfl)
    simp only [Act.put,List.setIfInBounds_toArray];refine ij 2 ?v2_36 rfl (by kernel_rfl) (fun _ _ _ h=>h) (by rfl) ?y2_36 trivial ?_
    case y2_36=>(intro u a;go_simp;try rfl)
    simp only [Act.put];refine ij 3 ?v3_37 rfl (by kernel_rfl) (fun _ _ _ h=>h) (by rfl) ?y3_37 trivial ?_
    case y3_37=>(intro u a;go_simp;try rfl)
    simp only [Act.put];refine ij 4 ?v4_38 rfl (by kernel_rfl) (fun _ _ _ h=>h) (by rfl) ?y4_38 trivial ?_
    case y4_38=>(intro u a;go_simp;try rfl)
    simp only [Act.put];refine ij 5 ?v5_39 rfl (by kernel_rfl) (fun _ _ _ h=>h) (by rfl) ?y5_39 trivial ?_
    case y5_39=>(intro u a;go_simp;try rfl)
    simp only [Act.put];refine ij 6 ?v6_40 rfl (by kernel_rfl) (fun _ _ _ h=>h) (by rfl) ?y6_40 trivial ?_
    case y6_40=>(intro u a;go_simp;try rfl)
    simp only [Act.put];refine iw (i:=1) rfl (by kernel_rfl) (by kernel_rfl) (by rfl) ?_;intro v d;have l:=il d;clear d;go_simp;refine n.out.mono ?_;rintro e w6 ⟨rfl,f⟩;exact⟨rfl,Or.inl ⟨m.out,rfl,f⟩⟩
  ·have HX:Hid ((leB 4 C).drop 2=(C / 65536 % 256)::(leB 4 C).drop 3):=by unfold Hid;simp [leB,Nat.div_div_eq_div_mul]
   have H:IntKind.i64.wrap 16=16:=by decide
   by_cases p:c<s.size
   ·have HB:=il (lh s c p);have n:=il (nE W A.drew b c s (z.out.grown (iz (iu _ _))) B p);generalize s[c].toNat=y at*;by_cases o:y=C / 65536 % 256
    ·have E:((y:Int)==IntKind.u8.wrap ((C:Int) / 65536))=true:=by rw [IntKind.wrap_u8'];simp;omega
     have m:Hid (i7 ((leB 4 C).drop (3)) ((byt s).drop (c+1))=i7 (leB 4 C) ((byt s).drop k)):=by
      unfold Hid;rw [<-r.out,HB.out,HX.out,i7,if_pos o]
     clear o;go_wp2_with fail
     refine iA (fun _=>True) 8 (by kernel_rfl) (by kernel_rfl) trivial ?_;intro t;refine ij 0 ?v0_41 rfl (by kernel_rfl) (fun _ _ _ h=>h) (by rfl) ?y0_41 trivial ?_
     case y0_41=>(intro u a;go_simp;try rfl)
     simp only [Act.put,List.setIfInBounds_toArray];refine ij 2 ?v2_42 rfl (by kernel_rfl) (fun _ _ _ h=>h) (by rfl) ?y2_42 trivial ?_
     case y2_42=>(intro u a;go_simp;try rfl)
     simp only [Act.put];refine ij 3 ?v3_43 rfl (by kernel_rfl) (fun _ _ _ h=>h) (by rfl) ?y3_43 trivial ?_
     case y3_43=>(intro u a;go_simp;try rfl)
     simp only [Act.put];refine ij 4 ?v4_44 rfl (by kernel_rfl) (fun _ _ _ h=>h) (by rfl) ?y4_44 trivial ?_
     case y4_44=>(intro u a;go_simp;try rfl)
     simp only [Act.put];refine ij 5 ?v5_45 rfl (by kernel_rfl) (fun _ _ _ h=>h) (by rfl) ?y5_45 trivial ?_
     case y5_45=>(intro u a;go_simp;try rfl)
     simp only [Act.put];refine ij 6 ?v6_46 rfl (by kernel_rfl) (fun _ _ _ h=>h) (by rfl) ?y6_46 trivial ?_
     case y6_46=>(intro u a;go_simp;try rfl)
     simp only [Act.put];refine iw (i:=1) rfl (by kernel_rfl) (by kernel_rfl) (by rfl) ?_;intro v d;have l:=il d;clear d;go_simp;refine n.out.mono ?_;rintro e w6 ⟨rfl,f⟩;have q:=il f;clear f;refine l.out _ _ trivial ?_;clear l;try simp only [Act.put,List.setIfInBounds_toArray]
     refine ij 7 ?v7_47 rfl (by kernel_rfl) (fun _ _ _ h=>h) (by rfl) ?y7_47 trivial ?_
     case y7_47=>(intro u a;go_simp;try rfl)
     simp only [Act.put];refine iI rfl (by kernel_rfl) (by kernel_rfl) (by rfl) ?_;go_simp;refine(j4 _).mono ?_;rintro e D ⟨⟨I,rfl⟩,rfl⟩;go_wp2_with fail
     go_roundw
     case rel=>exact⟨3,c+1,by omega,by first | rfl | go_num,q,m⟩
     case measure=>simp [intOf]
    ·have E:((y:Int)==IntKind.u8.wrap ((C:Int) / 65536))=false:=by rw [IntKind.wrap_u8'];simp;omega
     have m:Hid (i7 (leB 4 C) ((byt s).drop k)=none):=by
      unfold Hid;rw [<-r.out,HB.out,HX.out,i7,if_neg o]
     clear o;go_wp2_with fail
     refine iA (fun _=>True) 8 (by kernel_rfl) (by kernel_rfl) trivial ?_;intro t;refine ij 0 ?v0_48 rfl (by kernel_rfl) (fun _ _ _ h=>h) (by rfl) ?y0_48 trivial ?_
     case y0_48=>(intro u a;go_simp;try rfl)
     simp only [Act.put,List.setIfInBounds_toArray];refine ij 2 ?v2_49 rfl (by kernel_rfl) (fun _ _ _ h=>h) (by rfl) ?y2_49 trivial ?_
     case y2_49=>(intro u a;go_simp;try rfl)
     simp only [Act.put];refine ij 3 ?v3_50 rfl (by kernel_rfl) (fun _ _ _ h=>h) (by rfl) ?y3_50 trivial ?_
     case y3_50=>(intro u a;go_simp;try rfl)
     simp only [Act.put];refine ij 4 ?v4_51 rfl (by kernel_rfl) (fun _ _ _ h=>h) (by rfl) ?y4_51 trivial ?_
     case y4_51=>(intro u a;go_simp;try rfl)
     simp only [Act.put];refine ij 5 ?v5_52 rfl (by kernel_rfl) (fun _ _ _ h=>h) (by rfl) ?y5_52 trivial ?_
     case y5_52=>(intro u a;go_simp;try rfl)
     simp only [Act.put];refine ij 6 ?v6_53 rfl (by kernel_rfl) (fun _ _ _ h=>h) (by rfl) ?y6_53 trivial ?_
     case y6_53=>(intro u a;go_simp;try rfl)
     simp only [Act.put];refine iw (i:=1) rfl (by kernel_rfl) (by kernel_rfl) (by rfl) ?_;intro v d;have l:=il d;clear d;go_simp;refine n.out.mono ?_;rintro e w6 ⟨rfl,f⟩;have q:=il f;clear f;refine l.out _ _ trivial ?_;clear l;try simp only [Act.put,List.setIfInBounds_toArray]
     refine ij 7 ?v7_54 rfl (by kernel_rfl) (fun _ _ _ h=>h) (by rfl) ?y7_54 trivial ?_
     case y7_54=>(intro u a;go_simp;try rfl)
     simp only [Act.put];refine iI rfl (by kernel_rfl) (by kernel_rfl) (by rfl) ?_;go_simp;refine(jL _).mono ?_;rintro e D ⟨rfl,rfl⟩;exact⟨rfl,Or.inl ⟨m.out,rfl,q.out.base⟩⟩
   ·have F:Hid ((byt s).drop c=[]):=List.drop_eq_nil_iff.2 (by rw [iT];omega);have n:=il (nG W A.drew b c s (z.out.grown (iz (iu _ _))) B p);have m:Hid (i7 (leB 4 C) ((byt s).drop k)=none):=by
     unfold Hid;rw [<-r.out,F.out,HX.out,i7]
    go_wp2_with fail
    refine iA (fun _=>True) 8 (by kernel_rfl) (by kernel_rfl) trivial ?_;intro t;refine ij 0 ?v0_55 rfl (by kernel_rfl) (fun _ _ _ h=>h) (by rfl) ?y0_55 trivial ?_
    case y0_55=>(intro u a;go_simp;try rfl)
    simp only [Act.put,List.setIfInBounds_toArray];refine ij 2 ?v2_56 rfl (by kernel_rfl) (fun _ _ _ h=>h) (by rfl) ?y2_56 trivial ?_
    case y2_56=>(intro u a;go_simp;try rfl)
    simp only [Act.put];refine ij 3 ?v3_57 rfl (by kernel_rfl) (fun _ _ _ h=>h) (by rfl) ?y3_57 trivial ?_
    case y3_57=>(intro u a;go_simp;try rfl)
    simp only [Act.put];refine ij 4 ?v4_58 rfl (by kernel_rfl) (fun _ _ _ h=>h) (by rfl) ?y4_58 trivial ?_
    case y4_58=>(intro u a;go_simp;try rfl)
    simp only [Act.put];refine ij 5 ?v5_59 rfl (by kernel_rfl) (fun _ _ _ h=>h) (by rfl) ?y5_59 trivial ?_
    case y5_59=>(intro u a;go_simp;try rfl)
    simp only [Act.put];refine ij 6 ?v6_60 rfl (by kernel_rfl) (fun _ _ _ h=>h) (by rfl) ?y6_60 trivial ?_
    case y6_60=>(intro u a;go_simp;try rfl)
    simp only [Act.put];refine iw (i:=1) rfl (by kernel_rfl) (by kernel_rfl) (by rfl) ?_;intro v d;have l:=il d;clear d;go_simp;refine n.out.mono ?_;rintro e w6 ⟨rfl,f⟩;exact⟨rfl,Or.inl ⟨m.out,rfl,f⟩⟩
  ·have HX:Hid ((leB 4 C).drop 3=(C / 16777216 % 256)::(leB 4 C).drop 4):=by unfold Hid;simp [leB,Nat.div_div_eq_div_mul]
   have H:IntKind.i64.wrap 24=24:=by decide
   by_cases p:c<s.size
   ·have HB:=il (lh s c p);have n:=il (nE W A.drew b c s (z.out.grown (iz (iu _ _))) B p);generalize s[c].toNat=y at*;by_cases o:y=C / 16777216 % 256
    ·have E:((y:Int)==IntKind.u8.wrap ((C:Int) / 16777216))=true:=by rw [IntKind.wrap_u8'];simp;omega
     have m:Hid (i7 ((leB 4 C).drop (4)) ((byt s).drop (c+1))=i7 (leB 4 C) ((byt s).drop k)):=by
      unfold Hid;rw [<-r.out,HB.out,HX.out,i7,if_pos o]
     clear o;go_wp2_with fail
     refine iA (fun _=>True) 8 (by kernel_rfl) (by kernel_rfl) trivial ?_;intro t;refine ij 0 ?v0_61 rfl (by kernel_rfl) (fun _ _ _ h=>h) (by rfl) ?y0_61 trivial ?_
     case y0_61=>(intro u a;go_simp;try rfl)
     simp only [Act.put,List.setIfInBounds_toArray];refine ij 2 ?v2_62 rfl (by kernel_rfl) (fun _ _ _ h=>h) (by rfl) ?y2_62 trivial ?_
     case y2_62=>(intro u a;go_simp;try rfl)
     simp only [Act.put];refine ij 3 ?v3_63 rfl (by kernel_rfl) (fun _ _ _ h=>h) (by rfl) ?y3_63 trivial ?_
     case y3_63=>(intro u a;go_simp;try rfl)
     simp only [Act.put];refine ij 4 ?v4_64 rfl (by kernel_rfl) (fun _ _ _ h=>h) (by rfl) ?y4_64 trivial ?_
     case y4_64=>(intro u a;go_simp;try rfl)
     simp only [Act.put];refine ij 5 ?v5_65 rfl (by kernel_rfl) (fun _ _ _ h=>h) (by rfl) ?y5_65 trivial ?_
     case y5_65=>(intro u a;go_simp;try rfl)
     simp only [Act.put];refine ij 6 ?v6_66 rfl (by kernel_rfl) (fun _ _ _ h=>h) (by rfl) ?y6_66 trivial ?_
     case y6_66=>(intro u a;go_simp;try rfl)
     simp only [Act.put];refine iw (i:=1) rfl (by kernel_rfl) (by kernel_rfl) (by rfl) ?_;intro v d;have l:=il d;clear d;go_simp;refine n.out.mono ?_;rintro e w6 ⟨rfl,f⟩;have q:=il f;clear f;refine l.out _ _ trivial ?_;clear l;try simp only [Act.put,List.setIfInBounds_toArray]
     refine ij 7 ?v7_67 rfl (by kernel_rfl) (fun _ _ _ h=>h) (by rfl) ?y7_67 trivial ?_
     case y7_67=>(intro u a;go_simp;try rfl)
     simp only [Act.put];refine iI rfl (by kernel_rfl) (by kernel_rfl) (by rfl) ?_;go_simp;refine(j4 _).mono ?_;rintro e D ⟨⟨I,rfl⟩,rfl⟩;go_wp2_with fail
     go_roundw
     case rel=>exact⟨4,c+1,by omega,by first | rfl | go_num,q,m⟩
     case measure=>simp [intOf]
    ·have E:((y:Int)==IntKind.u8.wrap ((C:Int) / 16777216))=false:=by rw [IntKind.wrap_u8'];simp;omega
     have m:Hid (i7 (leB 4 C) ((byt s).drop k)=none):=by
      unfold Hid;rw [<-r.out,HB.out,HX.out,i7,if_neg o]
     clear o;go_wp2_with fail
     refine iA (fun _=>True) 8 (by kernel_rfl) (by kernel_rfl) trivial ?_;intro t;refine ij 0 ?v0_68 rfl (by kernel_rfl) (fun _ _ _ h=>h) (by rfl) ?y0_68 trivial ?_
     case y0_68=>(intro u a;go_simp;try rfl)
     simp only [Act.put,List.setIfInBounds_toArray];refine ij 2 ?v2_69 rfl (by kernel_rfl) (fun _ _ _ h=>h) (by rfl) ?y2_69 trivial ?_
     case y2_69=>(intro u a;go_simp;try rfl)
     simp only [Act.put];refine ij 3 ?v3_70 rfl (by kernel_rfl) (fun _ _ _ h=>h) (by rfl) ?y3_70 trivial ?_
     case y3_70=>(intro u a;go_simp;try rfl)
     simp only [Act.put];refine ij 4 ?v4_71 rfl (by kernel_rfl) (fun _ _ _ h=>h) (by rfl) ?y4_71 trivial ?_
     case y4_71=>(intro u a;go_simp;try rfl)
     simp only [Act.put];refine ij 5 ?v5_72 rfl (by kernel_rfl) (fun _ _ _ h=>h) (by rfl) ?y5_72 trivial ?_
     case y5_72=>(intro u a;go_simp;try rfl)
     simp only [Act.put];refine ij 6 ?v6_73 rfl (by kernel_rfl) (fun _ _ _ h=>h) (by rfl) ?y6_73 trivial ?_
     case y6_73=>(intro u a;go_simp;try rfl)
     simp only [Act.put];refine iw (i:=1) rfl (by kernel_rfl) (by kernel_rfl) (by rfl) ?_;intro v d;have l:=il d;clear d;go_simp;refine n.out.mono ?_;rintro e w6 ⟨rfl,f⟩;have q:=il f;clear f;refine l.out _ _ trivial ?_;clear l;try simp only [Act.put,List.setIfInBounds_toArray]
     refine ij 7 ?v7_74 rfl (by kernel_rfl) (fun _ _ _ h=>h) (by rfl) ?y7_74 trivial ?_
     case y7_74=>(intro u a;go_simp;try rfl)
     simp only [Act.put];refine iI rfl (by kernel_rfl) (by kernel_rfl) (by rfl) ?_;go_simp;refine(jL _).mono ?_;rintro e D ⟨rfl,rfl⟩;exact⟨rfl,Or.inl ⟨m.out,rfl,q.out.base⟩⟩
   ·have F:Hid ((byt s).drop c=[]):=List.drop_eq_nil_iff.2 (by rw [iT];omega);have n:=il (nG W A.drew b c s (z.out.grown (iz (iu _ _))) B p);have m:Hid (i7 (leB 4 C) ((byt s).drop k)=none):=by
     unfold Hid;rw [<-r.out,F.out,HX.out,i7]
    go_wp2_with fail
    refine iA (fun _=>True) 8 (by kernel_rfl) (by kernel_rfl) trivial ?_;intro t;refine ij 0 ?v0_75 rfl (by kernel_rfl) (fun _ _ _ h=>h) (by rfl) ?y0_75 trivial ?_
    case y0_75=>(intro u a;go_simp;try rfl)
    simp only [Act.put,List.setIfInBounds_toArray];refine ij 2 ?v2_76 rfl (by kernel_rfl) (fun _ _ _ h=>h) (by rfl) ?y2_76 trivial ?_
    case y2_76=>(intro u a;go_simp;try rfl)
    simp only [Act.put];refine ij 3 ?v3_77 rfl (by kernel_rfl) (fun _ _ _ h=>h) (by rfl) ?y3_77 trivial ?_
    case y3_77=>(intro u a;go_simp;try rfl)
    simp only [Act.put];refine ij 4 ?v4_78 rfl (by kernel_rfl) (fun _ _ _ h=>h) (by rfl) ?y4_78 trivial ?_
    case y4_78=>(intro u a;go_simp;try rfl)
    simp only [Act.put];refine ij 5 ?v5_79 rfl (by kernel_rfl) (fun _ _ _ h=>h) (by rfl) ?y5_79 trivial ?_
    case y5_79=>(intro u a;go_simp;try rfl)
    simp only [Act.put];refine ij 6 ?v6_80 rfl (by kernel_rfl) (fun _ _ _ h=>h) (by rfl) ?y6_80 trivial ?_
    case y6_80=>(intro u a;go_simp;try rfl)
    simp only [Act.put];refine iw (i:=1) rfl (by kernel_rfl) (by kernel_rfl) (by rfl) ?_;intro v d;have l:=il d;clear d;go_simp;refine n.out.mono ?_;rintro e w6 ⟨rfl,f⟩;exact⟨rfl,Or.inl ⟨m.out,rfl,f⟩⟩
  ·have m:Hid (i7 (leB 4 C) ((byt s).drop k)=some ((),(byt s).drop c)):=by
    unfold Hid;rw [<-r.out];rfl
   go_wp2_with fail
   go_end0
   exact Or.inr ⟨(),_,_,c,m.out,rfl,trivial,z.out,rfl⟩
def inB(x lo hi:Int):Bool:=decide (lo<=x) && decide (x<=hi)
theorem qh(x b a:Int)(w:World):Calls Tryz.prog 132 #[.int .i64 x,.int .i64 b,.int .i64 a] w fun e w'=>e= .returned (.bool (inB x b a))/\w'=w:=by
 by_cases c:b<=x
 ·by_cases d:x<=a
  ·have HB:Hid (inB x b a=true):=by unfold Hid inB;simp [c,d]
   go_enter Tryz.func132,Tryz.ntmps132
   go_wp2_with fail
   go_ret;exact⟨by first | rfl | (rw [HB.out];rfl),rfl⟩
  ·have HB:Hid (inB x b a=false):=by unfold Hid inB;simp [d]
   have f:decide (x<=a)=false:=by simp;omega
   go_enter Tryz.func132,Tryz.ntmps132
   go_wp2_with fail
   go_ret;exact⟨by first | rfl | (rw [HB.out];rfl),rfl⟩
 ·have HB:Hid (inB x b a=false):=by unfold Hid inB;simp [c]
  have f:decide (b<=x)=false:=by simp;omega
  go_enter Tryz.func132,Tryz.ntmps132
  go_wp2_with fail
  go_ret;exact⟨by first | rfl | (rw [HB.out];rfl),rfl⟩
theorem pZ(a b c:Int):kH (a,b,c)=(inB a 1 5 && inB b 0 3 && inB c 0 500):=rfl
theorem sh(v:Int × Int × Int)(w:World):Calls Tryz.prog 91 #[E5 v] w fun e w'=>e= .returned (.bool (kH v))/\w.grownBy w' none:=by
 obtain⟨a,b,c⟩:=v;unfold E5;cases h1:inB a 1 5 with
 | false=>
  have d:Hid (kH (a,b,c)=false):=by unfold Hid;rw [pZ];simp only [h1];rfl
  go_enter Tryz.func91,Tryz.ntmps91
  go_wp2_with (go_at_call 132;refine(qh _ _ _ _).mono ?_;rintro e f ⟨rfl,rfl⟩)
  go_ret;exact⟨by rw [d.out];rfl,ir (iu _ _)⟩
 | true=>
  cases h2:inB b 0 3 with
  | false=>
   have d:Hid (kH (a,b,c)=false):=by unfold Hid;rw [pZ];simp only [h1,h2];rfl
   go_enter Tryz.func91,Tryz.ntmps91
   go_wp2_with (go_at_call 132;refine(qh _ _ _ _).mono ?_;rintro e f ⟨rfl,rfl⟩)
   go_ret;exact⟨by rw [d.out];rfl,ir (iu _ _)⟩
  | true=>
   cases h3:inB c 0 500 with
   | false=>
    have d:Hid (kH (a,b,c)=false):=by unfold Hid;rw [pZ];simp only [h1,h2,h3];rfl
    go_enter Tryz.func91,Tryz.ntmps91
    go_wp2_with (go_at_call 132;refine(qh _ _ _ _).mono ?_;rintro e f ⟨rfl,rfl⟩)
    go_ret;exact⟨by rw [d.out];rfl,ir (iu _ _)⟩
   | true=>
    have d:Hid (kH (a,b,c)=true):=by unfold Hid;rw [pZ];simp only [h1,h2,h3];rfl
    go_enter Tryz.func91,Tryz.ntmps91
    go_wp2_with (go_at_call 132;refine(qh _ _ _ _).mono ?_;rintro e f ⟨rfl,rfl⟩)
    go_ret;exact⟨by rw [d.out];rfl,ir (iu _ _)⟩
def pO(tv sv:Value)(v:Int × Int × Int):Value:= .agg #[tv,sv,.int .i64 v.1,.int .i64 v.2.1,.int .i64 v.2.2]
theorem tC(a:Art)(tv sv:Value)(w:World)(I:ShpAt w)(y:ProgAt w (.agg #[tv]) a.prog)(x:IntsAt w.heap.size w sv a.sch):
  Calls Tryz.prog 63 #[pO tv sv a.ver] w fun e w'=>e= .returned (.int .i64 (jI a))/\w.grownBy w' none:=by
 obtain⟨p,l,v⟩:=a;obtain⟨b,d,c⟩:=v;simp only at y x ⊢;have K:=il y;have M:=il x;obtain⟨n,o,E⟩:=y.form;simp only [Value.agg.injEq,Array.mk.injEq,List.cons.injEq,and_true]at E;subst E;obtain⟨h,f,rfl⟩:=x.form;have L:=il I;clear y x I;unfold pO;simp only;have q:w.grownBy (w.alloc (.cells #[.slice n p.length o,.slice h l.length f,.int .i64 b,.int .i64 d,.int .i64 c] 56)) none:=ir (iu _ _);have J:Hid ((w.alloc (.cells #[.slice n p.length o,.slice h l.length f,.int .i64 b,.int .i64 d,.int .i64 c] 56)).heap[w.heap.size]?=some (.cells #[.slice n p.length o,.slice h l.length f,.int .i64 b,.int .i64 d,.int .i64 c] 56 (0,0))):=heap_alloc_new _ _;have u:=il (zG p _ _ (ShpAt.pres L.out (iq q)) (K.out.pres (iq q)));have G:=il q;clear q;cases hv:iV p with
 | false=>
  have i:Hid (jI ⟨p,l,(b,d,c)⟩=1):=by unfold Hid jI;rw [if_neg (by rw [hv];simp)]
  rw [hv]at u;clear hv;go_enter Tryz.func63,Tryz.ntmps63
  go_wp2_with (go_at_call 51;refine u.out.mono ?_;rintro e s ⟨rfl,k⟩)
  go_ret;exact⟨by rw [i.out];rfl,ip G.out k⟩
 | true=>
  rw [hv]at u;have C:=il hv;clear hv;go_enter Tryz.func63,Tryz.ntmps63
  go_wp2_with fail
  refine u.out.mono ?_;rintro e s ⟨rfl,k⟩;have A:=il (ip G.out k);have D:s.heap[w.heap.size]?=some (.cells #[.slice n p.length o,.slice h l.length f,.int .i64 b,.int .i64 d,.int .i64 c] 56 (0,0)):=by
   rw [k.block _ (by simp) (by simp)];exact J.out
  have k1:s.cell? ⟨w.heap.size,1,none⟩=some (.slice h l.length f):=by simp [World.cell?,D]
  have t:=il (zt l (.slice h l.length f) s ((M.out.pres (iq A.out)).mono A.out.size));have F:=il D;clear k D;cases hv2:jd l with
  | false=>
   have i:Hid (jI ⟨p,l,(b,d,c)⟩=2):=by unfold Hid jI;rw [if_pos C.out,if_neg (by rw [hv2];simp)]
   rw [hv2]at t;clear hv2;go_wp2_with (go_at_call 76;refine t.out.mono ?_;rintro e j ⟨rfl,m⟩)
   go_ret;exact⟨by rw [i.out];rfl,ip A.out m⟩
  | true=>
   rw [hv2]at t;have N:=il hv2;clear hv2;go_wp2_with fail
   refine t.out.mono ?_;rintro e j ⟨rfl,m⟩;have H:=il (ip A.out m);have z:j.heap[w.heap.size]?=some (.cells #[.slice n p.length o,.slice h l.length f,.int .i64 b,.int .i64 d,.int .i64 c] 56 (0,0)):=by
    rw [m.block _ (Array.getElem?_eq_some_iff.1 F.out).1 (by simp)];exact F.out
   have k2:j.cell? ⟨w.heap.size,2,none⟩=some (.int .i64 b):=by simp [World.cell?,z]
   have k3:j.cell? ⟨w.heap.size,3,none⟩=some (.int .i64 d):=by simp [World.cell?,z]
   have k4:j.cell? ⟨w.heap.size,4,none⟩=some (.int .i64 c):=by simp [World.cell?,z]
   have r:=il (sh (b,d,c) j);clear m z k1;cases hv3:kH (b,d,c)with
   | false=>
    have i:Hid (jI ⟨p,l,(b,d,c)⟩=2):=by unfold Hid jI;rw [if_pos C.out,if_neg (by rw [hv3];simp)]
    rw [hv3]at r;clear hv3;go_wp2_with (go_at_call 91;refine r.out.mono ?_;rintro e O ⟨rfl,B⟩)
    go_ret;exact⟨by rw [i.out];rfl,ip H.out B⟩
   | true=>
    have i:Hid (jI ⟨p,l,(b,d,c)⟩=0):=by unfold Hid jI;rw [if_pos C.out,if_pos ⟨N.out,hv3⟩]
    rw [hv3]at r;clear hv3;go_wp2_with (go_at_call 91;refine r.out.mono ?_;rintro e O ⟨rfl,B⟩)
    go_ret;exact⟨by rw [i.out];rfl,ip H.out B⟩
theorem ThrAt.low{L b B:Nat}{w:World}{tv:Value}{p:List (List Ins)}(h:ThrAt L B w tv p)(a:b<=L):ThrAt b B w tv p:=by
 obtain⟨rows,k,d,c,e⟩:=h;refine⟨rows,iR k a,d,fun j hj=>?_,e⟩;obtain⟨rv,l,i,f⟩:=c j hj;exact⟨rv,l,iR i a,f⟩
def CF(l:List Nat)(a:Art)(r3:List Nat):Option Art:=if r3=leB 4 (lq (l.take (l.length - r3.length)))/\jI a=0 then some a else none
def Bs(l:List Nat)(p:List (List Ins))(s:List Int)(r:List Nat):Option Art:=match mX r with
 | none=>none
 | some (v,r3)=>CF l ⟨p,s,v⟩ r3
def C0(l:List Nat)(p:List (List Ins))(r:List Nat):Option Art:=match jV r with
 | none=>none
 | some (s,r2)=>Bs l p s r2
def Cu(l:List Nat)(r:List Nat):Option Art:=match kL r with
 | none=>none
 | some (p,r1)=>C0 l p r1
theorem AQ{l a:List Nat}(h:i7 [82,82,1] l=some ((),a)):kj l=Cu l a:=by
 have e:=(ts _ _ _).1 h;have f:l=82::82::1::a:=e;have d:o0 l=match kL a with
  | none=>none
  | some (p,b)=>match jV b with
   | none=>none
   | some (s,c)=>match mX c with
    | none=>none
    | some (v,r3)=>some (⟨p,s,v⟩,r3):=by rw [f];rfl
 unfold kj;rw [d];unfold Cu C0 Bs CF;cases kL a with
 | none=>rfl
 | some x=>
  obtain⟨p,b⟩:=x;simp only;cases jV b with
  | none=>rfl
  | some x=>
   obtain⟨s,c⟩:=x;simp only;cases mX c with
   | none=>rfl
   | some x=>rfl
theorem xz{l:List Nat}{k:Nat}(hk:k<=l.length)(a:Art):CF l a (l.drop k)=if i7 (leB 4 (lq (l.take k))) (l.drop k)=some ((),[])/\jI a=0 then some a else none:=by
 unfold CF;have e:l.length - (l.drop k).length=k:=by simp;omega
 rw [e];have b:(i7 (leB 4 (lq (l.take k))) (l.drop k)=some ((),[]))=(l.drop k=leB 4 (lq (l.take k))):=by rw [ts,List.append_nil]
 simp only [b]
theorem ShpAt.past{w w':World}{b:Nat}(h:ShpAt w)(hg:w.grownBy w' (some b))(hb:b≠0):ShpAt w':=fun o j h1 h2=>by
 have:=h o j h1 h2;rw [hg.cell_far _ (World.block_lt_of_cell? _ _ this) (by simpa using Ne.symm hb)];exact this
theorem vW{l:List Nat}(h:i7 [82,82,1] l=none):kj l=none:=by
 cases hd:kj l with
 | none=>rfl
 | some a=>
  obtain⟨r,c,_⟩:=AC hd;obtain⟨b,e⟩:=pz c;have:i7 [82,82,1] l=some ((),b):=(ts _ _ _).2 e;rw [this]at h;cases h
structure ArS(W w:World)(b:Nat)(s:ByteArray)(k c d L:Nat)(tv sv:Value)(p:List (List Ins))(l:List Int)(v:Int × Int × Int)(us:Array Value):Prop where
 ins:InS W w b s k 56 c d #[tv,sv,.int .i64 v.1,.int .i64 v.2.1,.int .i64 v.2.2] us
 thr:ThrAt L w.heap.size w tv p
 own:w.ownsRow L 3 1 sv l.length (iM l)
 lb:b<L
 lc:c<L
 ld:d<L
theorem ArS.call{W w w':World}{b k k' c d L:Nat}{s:ByteArray}{tv sv:Value}{p:List (List Ins)}{l:List Int}{v:Int × Int × Int}{us:Array Value}(h:ArS W w b s k c d L tv sv p l v us)(h':RdS w w' b s k'):ArS W w' b s k' c d L tv sv p l v us:=
 ⟨h.ins.call h',(h.thr.step h'.base (fun q e=>by simp only [Option.some.injEq]at e;have:=h.lb;omega)).mono h'.base.size,vl h.own h'.base h.lb,h.lb,h.lc,h.ld⟩
theorem jf{w:World}{base:Nat}{e:TypeId}{size:Nat}{v:Value}{n:Nat}{xs:List Value}{g o:Nat}{u:Value}(h:w.ownsRow base e size v n xs)(hg:g<base):(w.setCell ⟨g,o,none⟩ u).ownsRow base e size v n xs:=
 iE h (iW (w:=w) (b:=g) (o:=o) (v:=u)) (fun k e=>by simp only [Option.some.injEq]at e;omega)
theorem jm{L:Nat}{w:World}{tv:Value}{p:List (List Ins)}{g o:Nat}{u:Value}(h:ThrAt L w.heap.size w tv p)(hg:g<L):ThrAt L (w.setCell ⟨g,o,none⟩ u).heap.size (w.setCell ⟨g,o,none⟩ u) tv p:=
 (h.step (iW (w:=w) (b:=g) (o:=o) (v:=u)) (fun q e=>by simp only [Option.some.injEq]at e;omega)).mono (by simp)
theorem ArS.setS{W w:World}{b k c d L:Nat}{s:ByteArray}{tv sv sv':Value}{p:List (List Ins)}{l l':List Int}{v:Int × Int × Int}{us:Array Value}(h:ArS W w b s k c d L tv sv p l v us)(h':w.ownsRow L 3 1 sv' l'.length (iM l')):ArS W (w.setCell ⟨c,1,none⟩ sv') b s k c d L tv sv' p l' v us:=
 ⟨by simpa using h.ins.set 1 sv',jm h.thr h.lc,jf h' h.lc,h.lb,h.lc,h.ld⟩
theorem ArS.setV{W w:World}{b k c d L:Nat}{s:ByteArray}{tv sv:Value}{p:List (List Ins)}{l:List Int}{v:Int × Int × Int}{us:Array Value}(h:ArS W w b s k c d L tv sv p l v us)(x:Int × Int × Int):
  ArS W (((w.setCell ⟨c,2,none⟩ (.int .i64 x.1)).setCell ⟨c,3,none⟩ (.int .i64 x.2.1)).setCell ⟨c,4,none⟩ (.int .i64 x.2.2)) b s k c d L tv sv p l x us:=
 ⟨by simpa using ((h.ins.set 2 (.int .i64 x.1)).set 3 (.int .i64 x.2.1)).set 4 (.int .i64 x.2.2),jm (jm (jm h.thr h.lc) h.lc) h.lc,jf (jf (jf h.own h.lc) h.lc) h.lc,h.lb,h.lc,h.ld⟩
theorem ArS.first{W w:World}{b k c d L:Nat}{s:ByteArray}{tv:Value}{p:List (List Ins)}{us:Array Value}(h:InS W w b s k 56 c d #[.slice none 0 0,.slice none 0 0,.int .i64 0,.int .i64 0,.int .i64 0] us)(ht:ThrAt L w.heap.size w tv p)(hb:b<L)(hc:c<L)(hd:d<L):
  ArS W (w.setCell ⟨c,0,none⟩ tv) b s k c d L tv (.slice none 0 0) p [] (0,0,0) us:=
 ⟨by simpa using h.set 0 tv,jm ht hc,⟨rfl,Or.inl ⟨rfl,rfl⟩⟩,hb,hc,hd⟩
theorem ArS.out{W w:World}{b k c d L:Nat}{s:ByteArray}{tv sv:Value}{p:List (List Ins)}{l:List Int}{v:Int × Int × Int}{a:Array Value}(h:ArS W w b s k c d L tv sv p l v a)(e:a.size=5):
  ArS W (((((w.setCell ⟨d,0,none⟩ tv).setCell ⟨d,1,none⟩ sv).setCell ⟨d,2,none⟩ (.int .i64 v.1)).setCell ⟨d,3,none⟩ (.int .i64 v.2.1)).setCell ⟨d,4,none⟩ (.int .i64 v.2.2)) b s k c d L tv sv p l v #[tv,sv,.int .i64 v.1,.int .i64 v.2.1,.int .i64 v.2.2]:=by
 obtain⟨a⟩:=a;match a,e with
 | [a0,a1,a2,a3,a4],_=>
  exact⟨by simpa using ((((h.ins.rset 0 tv).rset 1 sv).rset 2 (.int .i64 v.1)).rset 3 (.int .i64 v.2.1)).rset 4 (.int .i64 v.2.2),
   jm (jm (jm (jm (jm h.thr h.ld) h.ld) h.ld) h.ld) h.ld,jf (jf (jf (jf (jf h.own h.ld) h.ld) h.ld) h.ld) h.ld,h.lb,h.lc,h.ld⟩
def FX(W:World)(b L:Nat)(s:ByteArray)(e:Ending)(w':World):Prop:=
 (kj (byt s)=none/\rW e/\W.grownBy w' (some b))\/
 ∃ a tv sv,kj (byt s)=some a/\e= .returned (pO tv sv a.ver)/\ThrAt L w'.heap.size w' tv a.prog/\w'.ownsRow L 3 1 sv a.sch.length (iM a.sch)/\W.grownBy w' (some b)
theorem yu(w:World)(b:Nat)(s:ByteArray)(ai:ShpAt w)(aT:b≠0)(h:RdS w w b s 0)(L:s.size<=9223372036854775806):
  Calls Tryz.prog 97 #[pt b] w (FX w b (w.heap.size+2) s):=by
 have HH:=il h;have au:=il ai;have hbw:=h.lt;have aO:pt b= .pointer (some ⟨b,0,none⟩):=rfl;rw [aO]at*;clear h ai;go_enter Tryz.func97,Tryz.ntmps97
 go_wp2_with fail
 have G:=InS.start (T:=56) HH.out #[.slice none 0 0,.slice none 0 0,.int .i64 0,.int .i64 0,.int .i64 0] #[.slice none 0 0,.slice none 0 0,.int .i64 0,.int .i64 0,.int .i64 0];generalize ad:(w.alloc (.cells #[.slice none 0 0,.slice none 0 0,.int .i64 0,.int .i64 0,.int .i64 0] 56)).alloc (.cells #[.slice none 0 0,.slice none 0 0,.int .i64 0,.int .i64 0,.int .i64 0] 56)=w1 at G ⊢;have aN:w.heap.size+2<=w1.heap.size:=by rw [<-ad];simp
 clear ad;refine(FN w1 w1 b 0 s G.rd.self L).mono ?_;rintro e S (⟨a,rfl,i⟩ | ⟨_,E,v,k1,a,rfl,_,f,rfl⟩)
 ·have d:Hid (kj (byt s)=none):=vW a;have m:=il (ip G.rd.base i);clear a i G;go_wp2_with fail
  exact⟨rfl,Or.inl ⟨d.out,rfl,m.out⟩⟩
 have al:Hid (kj (byt s)=Cu (byt s) ((byt s).drop k1)):=AQ a;have I1:=G.call f;have hz2:w.heap.size+2<=S.heap.size:=Nat.le_trans aN f.base.size;have R:=il I1;clear G f a I1;go_wp2_with fail
 refine(AX S S b k1 s R.out.rd.self L).mono ?_;rintro e Q (⟨a,rfl,i⟩ | ⟨p,E,v,k2,a,rfl,I,f,rfl⟩)
 ·have d:Hid (kj (byt s)=none):=by unfold Hid;rw [al.out,Cu,a]
  have m:=il (ip R.out.rd.base i);clear a i;go_wp2_with fail
  exact⟨rfl,Or.inl ⟨d.out,rfl,m.out⟩⟩
 have ao:Hid (kj (byt s)=C0 (byt s) p ((byt s).drop k2)):=by unfold Hid;rw [al.out,Cu,a]
 obtain⟨hp4,tv,rfl,ht⟩:=I;obtain⟨r,y,A,rfl⟩:=iy ht.choose_spec.1;have ap:Hid (ThrAt (w.heap.size+2) Q.heap.size Q (.slice r y A) p):=ht.low (by omega);have N:=R.out.call f;have ah:=il N;have c3:Q.cell? ⟨w.heap.size+1,0,none⟩=some (.slice none 0 0):=by simpa using N.cell 0
 have f3:=N.free 0;clear ht f a N;go_wp2_with fail
 have t:=ArS.first ah.out ap.out (by omega) (by omega) (by omega);clear c3 f3 ah ap R;generalize Q.setCell ⟨w.heap.size+1,0,none⟩ (.slice r y A)=w4 at t ⊢;have aQ:w.heap.size+2<=w4.heap.size:=by
  have:=t.ins.rd.base.size;have h5:=(Array.getElem?_eq_some_iff.1 t.ins.var).1;omega
 refine(yV w4 w4 b k2 s t.ins.rd.self L).mono ?_;rintro e w5 (⟨a,rfl,i⟩ | ⟨l,E,sv,k3,a,rfl,I,f,rfl⟩)
 ·have d:Hid (kj (byt s)=none):=by unfold Hid;rw [ao.out,C0,a]
  have m:=il (ip t.ins.rd.base i);clear a i t;go_wp2_with fail
  exact⟨rfl,Or.inl ⟨d.out,rfl,m.out⟩⟩
 have ak:Hid (kj (byt s)=Bs (byt s) p l ((byt s).drop k3)):=by unfold Hid;rw [ao.out,C0,a]
 obtain⟨z,q,u,rfl⟩:=iy I.2;have aj:Hid (w5.ownsRow (w.heap.size+2) 3 1 (.slice z q u) l.length (iM l)):=iR I.2 aQ;have M:=il (t.call f);have c5:w5.cell? ⟨w.heap.size+1,1,none⟩=some (.slice none 0 0):=by simpa using M.out.ins.cell 1
 have f5:=M.out.ins.free 1;clear I f a t;go_wp2_with fail
 have F:=M.out.setS aj.out;clear c5 f5 M aj;generalize w5.setCell ⟨w.heap.size+1,1,none⟩ (.slice z q u)=w6 at F ⊢;refine(Ga w6 w6 b k3 s F.ins.rd.self L).mono ?_;rintro e H (⟨a,rfl,i⟩ | ⟨x,E,v7,k4,a,rfl,rfl,f,rfl⟩)
 ·have d:Hid (kj (byt s)=none):=by unfold Hid;rw [ak.out,Bs,a]
  have m:=il (ip F.ins.rd.base i);clear a i F;go_wp2_with fail
  exact⟨rfl,Or.inl ⟨d.out,rfl,m.out⟩⟩
 have ag:Hid (kj (byt s)=CF (byt s) ⟨p,l,x⟩ ((byt s).drop k4)):=by unfold Hid;rw [ak.out,Bs,a]
 have o:=il (F.call f);obtain⟨x1,x2,x3⟩:=x;have c7:H.cell? ⟨w.heap.size+1,2,none⟩=some (.int .i64 0):=by simpa using o.out.ins.cell 2
 have c8:H.cell? ⟨w.heap.size+1,3,none⟩=some (.int .i64 0):=by simpa using o.out.ins.cell 3
 have c9:H.cell? ⟨w.heap.size+1,4,none⟩=some (.int .i64 0):=by simpa using o.out.ins.cell 4
 have f7:=o.out.ins.free 2;have f8:=o.out.ins.free 3;have f9:=o.out.ins.free 4;clear f a F;unfold E5;go_wp2_with fail
 have n:=o.out.setV (x1,x2,x3);simp only at n;clear c7 c8 c9 f7 f8 f9 o;generalize ((H.setCell ⟨w.heap.size+1,2,none⟩ (.int .i64 x1)).setCell ⟨w.heap.size+1,3,none⟩ (.int .i64 x2)).setCell ⟨w.heap.size+1,4,none⟩ (.int .i64 x3)=w8 at n ⊢;refine(DW w8 w8 b k4 s n.ins.rd.self L).mono ?_;rintro e B (⟨a,rfl,i⟩ | ⟨_,E,v9,K,a,rfl,_,f,rfl⟩)
 ·have d:Hid (kj (byt s)=none):=by
   unfold Hid;rw [ag.out,xz (by rw [iT];exact n.ins.rd.le),if_neg (by rw [a];simp)]
  have m:=il (ip n.ins.rd.base i);clear a i n;go_wp2_with fail
  exact⟨rfl,Or.inl ⟨d.out,rfl,m.out⟩⟩
 have W:Hid (kj (byt s)=if (byt s).drop K=[]/\jI ⟨p,l,(x1,x2,x3)⟩=0 then some ⟨p,l,(x1,x2,x3)⟩ else none):=by
  unfold Hid;rw [ag.out,xz (by rw [iT];exact n.ins.rd.le),a]
  simp
 have j:=il (n.call f);have c0:=j.out.ins.rd.c0;have c1:=j.out.ins.rd.c1;have hk5:=j.out.ins.rd.le;clear f n a;by_cases ae:¬K=s.size
 ·have qe:((K:Int)==(s.size:Int))=false:=by simp;omega
  have d:Hid (kj (byt s)=none):=by
   unfold Hid;rw [W.out,if_neg]
   intro h;have:=List.drop_eq_nil_iff.1 h.1;rw [iT]at this;omega
  clear ae;go_wp2_with fail
  go_still_tail 10,(by kernel_rfl)
  go_wp2_with (go_at_call 141;refine(jL _).mono ?_;rintro e H ⟨rfl,rfl⟩)
  exact⟨rfl,Or.inl ⟨d.out,rfl,iz j.out.ins.rd.base⟩⟩
 have qe:((K:Int)==(s.size:Int))=true:=by simp;omega
 have P:Hid (kj (byt s)=if jI ⟨p,l,(x1,x2,x3)⟩=0 then some ⟨p,l,(x1,x2,x3)⟩ else none):=by
  have e:(byt s).drop K=[]:=List.drop_eq_nil_iff.2 (by rw [iT];omega);unfold Hid;rw [W.out,e];simp
 have C:=il (j.out.call (j.out.ins.rd.self.grown (iz (iu _ _))));have Z:B.cell? ⟨w.heap.size+1,0,none⟩=some (.slice r y A):=by simpa using j.out.ins.cell 0
 have d1:B.cell? ⟨w.heap.size+1,1,none⟩=some (.slice z q u):=by simpa using j.out.ins.cell 1
 have X:B.cell? ⟨w.heap.size+1,2,none⟩=some (.int .i64 x1):=by simpa using j.out.ins.cell 2
 have U:B.cell? ⟨w.heap.size+1,3,none⟩=some (.int .i64 x2):=by simpa using j.out.ins.cell 3
 have V:B.cell? ⟨w.heap.size+1,4,none⟩=some (.int .i64 x3):=by simpa using j.out.ins.cell 4
 clear ae W;have aG:Hid (ShpAt B.drew):=ShpAt.past au.out C.out.ins.rd.base aT;have O:=il (tC ⟨p,l,(x1,x2,x3)⟩ (.slice r y A) (.slice z q u) B.drew aG.out C.out.thr.progAt (jz C.out.own));unfold pO at O;simp only at O;go_wp2_with fail
 go_still_tail 10,(by kernel_rfl)
 go_wp2_with (first | (go_at_call 141;refine(j4 _).mono ?_;rintro e w11 ⟨⟨v11,rfl⟩,rfl⟩))
 refine O.out.mono ?_;rintro e k ⟨rfl,aq⟩;have c:=C.out.call (C.out.ins.rd.self.grown aq);have Y:=il c;clear c0 c1 Z d1 X U V j C O aq;by_cases D:jI ⟨p,l,(x1,x2,x3)⟩=0
 ·have Z:k.cell? ⟨w.heap.size+1,0,none⟩=some (.slice r y A):=by simpa using c.ins.cell 0
  have d1:k.cell? ⟨w.heap.size+1,1,none⟩=some (.slice z q u):=by simpa using c.ins.cell 1
  have X:k.cell? ⟨w.heap.size+1,2,none⟩=some (.int .i64 x1):=by simpa using c.ins.cell 2
  have U:k.cell? ⟨w.heap.size+1,3,none⟩=some (.int .i64 x2):=by simpa using c.ins.cell 3
  have V:k.cell? ⟨w.heap.size+1,4,none⟩=some (.int .i64 x3):=by simpa using c.ins.cell 4
  have r0:k.cell? ⟨w.heap.size,0,none⟩=some (.slice none 0 0):=by simpa using c.ins.rcell 0
  have E:k.cell? ⟨w.heap.size,1,none⟩=some (.slice none 0 0):=by simpa using c.ins.rcell 1
  have r2:k.cell? ⟨w.heap.size,2,none⟩=some (.int .i64 0):=by simpa using c.ins.rcell 2
  have r3:k.cell? ⟨w.heap.size,3,none⟩=some (.int .i64 0):=by simpa using c.ins.rcell 3
  have r4:k.cell? ⟨w.heap.size,4,none⟩=some (.int .i64 0):=by simpa using c.ins.rcell 4
  have g0:=c.ins.rfree 0;have g1:=c.ins.rfree 1;have g2:=c.ins.rfree 2;have g3:=c.ins.rfree 3;have g4:=c.ins.rfree 4;have d:Hid (kj (byt s)=some ⟨p,l,(x1,x2,x3)⟩):=by unfold Hid;rw [P.out,if_pos D]
  rw [D];clear D c P;go_wp2_with (go_at_call 141;refine(j4 _).mono ?_;rintro e an ⟨⟨v13,rfl⟩,rfl⟩)
  have J:=Y.out.out rfl;simp only at J;clear Z d1 X U V r0 E r2 r3 r4 g0 g1 g2 g3 g4 Y;generalize hwz:(((((an.setCell ⟨w.heap.size,0,none⟩ (.slice r y A)).setCell ⟨w.heap.size,1,none⟩ (.slice z q u)).setCell ⟨w.heap.size,2,none⟩ (.int .i64 x1)).setCell ⟨w.heap.size,3,none⟩ (.int .i64 x2)).setCell ⟨w.heap.size,4,none⟩ (.int .i64 x3))=wz at J ⊢;have e0:wz.cell? ⟨w.heap.size,0,none⟩=some (.slice r y A):=by simpa using J.ins.rcell 0
  have e1:wz.cell? ⟨w.heap.size,1,none⟩=some (.slice z q u):=by simpa using J.ins.rcell 1
  have e2:wz.cell? ⟨w.heap.size,2,none⟩=some (.int .i64 x1):=by simpa using J.ins.rcell 2
  have e3:wz.cell? ⟨w.heap.size,3,none⟩=some (.int .i64 x2):=by simpa using J.ins.rcell 3
  have e4:wz.cell? ⟨w.heap.size,4,none⟩=some (.int .i64 x3):=by simpa using J.ins.rcell 4
  refine bodyPost_ret (v:= .agg #[.slice r y A,.slice z q u,.int .i64 x1,.int .i64 x2,.int .i64 x3]) ?_ rfl ?_
  ·simp [results,Tryz.results97,go_sem,e0,e1,e2,e3,e4]
  ·exact Or.inr ⟨⟨p,l,(x1,x2,x3)⟩,_,_,d.out,rfl,J.thr,J.own,J.ins.rd.base⟩
 ·have qn:(jI ⟨p,l,(x1,x2,x3)⟩==0)=false:=by simpa using D
  have d:Hid (kj (byt s)=none):=by unfold Hid;rw [P.out,if_neg D]
  clear D c P;generalize jI ⟨p,l,(x1,x2,x3)⟩=ee at*;go_wp2_with (go_at_call 141;refine(jL _).mono ?_;rintro e an ⟨rfl,rfl⟩)
  exact⟨rfl,Or.inl ⟨d.out,rfl,Y.out.ins.rd.base⟩⟩
end
end Go.Proofs.YtklenjmfalljgabGreatDoor
