/- The texts Rdh Rdi Rdj Rdk Rdl. -/
import Derived.Test.YtklenjmfalljgabGreatDoorM02
import Derived.Test.YtklenjmfalljgabGreatDoorM17
import Derived.Test.YtklenjmfalljgabGreatDoorM20
namespace Go.Proofs.YtklenjmfalljgabGreatDoor
set_option maxRecDepth 100000
set_option maxHeartbeats 8000000
section
open Go.RowKit
attribute [local go_sem] Go.World.cell?_alloc_some
def rdLit:List Nat->List Nat->Option (Unit × List Nat)
 | [],l=>some ((),l)
 | _::_,[]=>none
 | x::xs,y::l=>if y=x then rdLit xs l else none
theorem oU(xs l r:List Nat):rdLit xs l=some ((),r)↔l=xs++r:=by
 induction xs generalizing l with
 | nil=>simp [rdLit]
 | cons x xs ih=>
  cases l with
  | nil=>simp [rdLit]
  | cons y l=>
   simp only [rdLit];by_cases h:y=x
   ·rw [if_pos h,ih,h];simp
   ·rw [if_neg h];simp [h]
theorem BG(W w:World)(b k:Nat)(s:ByteArray)(h:RdS W w b s k)(A:s.size<=9223372036854775806):
  Calls Tryz.prog 136 #[pt b] w (Rd W b s (fun _ _ _=>True) (rdLit [82,82,1] ((byt s).drop k))):=by
 have I:=ij h;have E:pt b= .pointer (some ⟨b,0,none⟩):=rfl;rw [E];clear h E;go_enter Tryz.func136,Tryz.ntmps136
 go_wp2_with fail
 go_loopw [3] (fun i w'=>∃ (j c:Nat),j<=3/\i= .int .i64 j/\Hid (RdS W w' b s c)/\Hid (rdLit ([82,82,1].drop j) ((byt s).drop c)=rdLit [82,82,1] ((byt s).drop k))) (fun i _=>3 - (intOf i).toNat)
 case atStart=>exact⟨0,k,by omega,rfl,I,ij rfl⟩
 case round=>
  obtain⟨j,c,hj,rfl,t,r⟩:=hrel;obtain⟨z,F⟩:∃ z,z=wr:=⟨_,rfl⟩;rw [<-F]at t ⊢;clear F;have J:j=0\/j=1\/j=2\/j=3:=by omega
  rcases J with rfl | rfl | rfl | rfl
  ·have HX:Hid (([82,82,1]:List Nat).drop 0=82::[82,82,1].drop 1):=rfl;have G:(({ data:= #[82,82,1]}:ByteArray)[0]).toNat=82:=rfl;by_cases q:c<s.size
   ·have HB:=ij (jA s c q);have n:=ij (kM W z.drew b c s (t.out.grown (iy (ir _ _))) A q);generalize s[c].toNat=y at*;by_cases o:y=82
    ·have C:((y:Int)==82)=true:=by simp;omega
     have m:Hid (rdLit (([82,82,1]).drop (1)) ((byt s).drop (c+1))=rdLit ([82,82,1]) ((byt s).drop k)):=by
      unfold Hid;rw [<-r.out,HB.out,HX.out,rdLit,if_pos o]
     clear o;go_wp2_with fail
     refine iz (fun _=>True) 5 (by kernel_rfl) (by kernel_rfl) trivial ?_;intro x;refine ie 0 ?v0_1 rfl (by kernel_rfl) (fun _ _ _ h=>h) (by rfl) ?y0_1 trivial ?_
     case y0_1=>(intro u a;go_simp;try rfl)
     simp only [Act.put,List.setIfInBounds_toArray];refine ie 2 ?v2_2 rfl (by kernel_rfl) (fun _ _ _ h=>h) (by rfl) ?y2_2 trivial ?_
     case y2_2=>(intro u a;go_simp;try rfl)
     simp only [Act.put];refine ie 3 ?v3_3 rfl (by kernel_rfl) (fun _ _ _ h=>h) (by rfl) ?y3_3 trivial ?_
     case y3_3=>(intro u a;go_simp;try rfl)
     simp only [Act.put];refine iu (i:=1) rfl (by kernel_rfl) (by kernel_rfl) (by rfl) ?_;intro v d;have l:=ij d;clear d;go_simp;refine n.out.mono ?_;rintro e w6 ⟨rfl,f⟩;have p:=ij f;clear f;refine l.out _ _ trivial ?_;clear l;try simp only [Act.put,List.setIfInBounds_toArray]
     refine ie 4 ?v4_4 rfl (by kernel_rfl) (fun _ _ _ h=>h) (by rfl) ?y4_4 trivial ?_
     case y4_4=>(intro u a;go_simp;try rfl)
     simp only [Act.put];refine iF rfl (by kernel_rfl) (by kernel_rfl) (by rfl) ?_;go_simp;refine(jd _).mono ?_;rintro e D ⟨⟨H,rfl⟩,rfl⟩;go_wp2_with fail
     go_roundw
     case rel=>exact⟨1,c+1,by omega,by first | rfl | go_num,p,m⟩
     case measure=>simp [intOf]
    ·have C:((y:Int)==82)=false:=by simp;omega
     have m:Hid (rdLit ([82,82,1]) ((byt s).drop k)=none):=by
      unfold Hid;rw [<-r.out,HB.out,HX.out,rdLit,if_neg o]
     clear o;go_wp2_with fail
     refine iz (fun _=>True) 5 (by kernel_rfl) (by kernel_rfl) trivial ?_;intro x;refine ie 0 ?v0_5 rfl (by kernel_rfl) (fun _ _ _ h=>h) (by rfl) ?y0_5 trivial ?_
     case y0_5=>(intro u a;go_simp;try rfl)
     simp only [Act.put,List.setIfInBounds_toArray];refine ie 2 ?v2_6 rfl (by kernel_rfl) (fun _ _ _ h=>h) (by rfl) ?y2_6 trivial ?_
     case y2_6=>(intro u a;go_simp;try rfl)
     simp only [Act.put];refine ie 3 ?v3_7 rfl (by kernel_rfl) (fun _ _ _ h=>h) (by rfl) ?y3_7 trivial ?_
     case y3_7=>(intro u a;go_simp;try rfl)
     simp only [Act.put];refine iu (i:=1) rfl (by kernel_rfl) (by kernel_rfl) (by rfl) ?_;intro v d;have l:=ij d;clear d;go_simp;refine n.out.mono ?_;rintro e w6 ⟨rfl,f⟩;have p:=ij f;clear f;refine l.out _ _ trivial ?_;clear l;try simp only [Act.put,List.setIfInBounds_toArray]
     refine ie 4 ?v4_8 rfl (by kernel_rfl) (fun _ _ _ h=>h) (by rfl) ?y4_8 trivial ?_
     case y4_8=>(intro u a;go_simp;try rfl)
     simp only [Act.put];refine iF rfl (by kernel_rfl) (by kernel_rfl) (by rfl) ?_;go_simp;refine(i7 _).mono ?_;rintro e D ⟨rfl,rfl⟩;exact⟨rfl,Or.inl ⟨m.out,rfl,p.out.base⟩⟩
   ·have B:Hid ((byt s).drop c=[]):=List.drop_eq_nil_iff.2 (by rw [iL];omega);have n:=ij (kL W z.drew b c s (t.out.grown (iy (ir _ _))) A q);have m:Hid (rdLit ([82,82,1]) ((byt s).drop k)=none):=by
     unfold Hid;rw [<-r.out,B.out,HX.out,rdLit]
    go_wp2_with fail
    refine iz (fun _=>True) 5 (by kernel_rfl) (by kernel_rfl) trivial ?_;intro x;refine ie 0 ?v0_9 rfl (by kernel_rfl) (fun _ _ _ h=>h) (by rfl) ?y0_9 trivial ?_
    case y0_9=>(intro u a;go_simp;try rfl)
    simp only [Act.put,List.setIfInBounds_toArray];refine ie 2 ?v2_10 rfl (by kernel_rfl) (fun _ _ _ h=>h) (by rfl) ?y2_10 trivial ?_
    case y2_10=>(intro u a;go_simp;try rfl)
    simp only [Act.put];refine ie 3 ?v3_11 rfl (by kernel_rfl) (fun _ _ _ h=>h) (by rfl) ?y3_11 trivial ?_
    case y3_11=>(intro u a;go_simp;try rfl)
    simp only [Act.put];refine iu (i:=1) rfl (by kernel_rfl) (by kernel_rfl) (by rfl) ?_;intro v d;have l:=ij d;clear d;go_simp;refine n.out.mono ?_;rintro e w6 ⟨rfl,f⟩;exact⟨rfl,Or.inl ⟨m.out,rfl,f⟩⟩
  ·have HX:Hid (([82,82,1]:List Nat).drop 1=82::[82,82,1].drop 2):=rfl;have G:(({ data:= #[82,82,1]}:ByteArray)[1]).toNat=82:=rfl;by_cases q:c<s.size
   ·have HB:=ij (jA s c q);have n:=ij (kM W z.drew b c s (t.out.grown (iy (ir _ _))) A q);generalize s[c].toNat=y at*;by_cases o:y=82
    ·have C:((y:Int)==82)=true:=by simp;omega
     have m:Hid (rdLit (([82,82,1]).drop (2)) ((byt s).drop (c+1))=rdLit ([82,82,1]) ((byt s).drop k)):=by
      unfold Hid;rw [<-r.out,HB.out,HX.out,rdLit,if_pos o]
     clear o;go_wp2_with fail
     refine iz (fun _=>True) 5 (by kernel_rfl) (by kernel_rfl) trivial ?_;intro x;refine ie 0 ?v0_12 rfl (by kernel_rfl) (fun _ _ _ h=>h) (by rfl) ?y0_12 trivial ?_
     case y0_12=>(intro u a;go_simp;try rfl)
     simp only [Act.put,List.setIfInBounds_toArray];refine ie 2 ?v2_13 rfl (by kernel_rfl) (fun _ _ _ h=>h) (by rfl) ?y2_13 trivial ?_
     case y2_13=>(intro u a;go_simp;try rfl)
     simp only [Act.put];refine ie 3 ?v3_14 rfl (by kernel_rfl) (fun _ _ _ h=>h) (by rfl) ?y3_14 trivial ?_
     case y3_14=>(intro u a;go_simp;try rfl)
     simp only [Act.put];refine iu (i:=1) rfl (by kernel_rfl) (by kernel_rfl) (by rfl) ?_;intro v d;have l:=ij d;clear d;go_simp;refine n.out.mono ?_;rintro e w6 ⟨rfl,f⟩;have p:=ij f;clear f;refine l.out _ _ trivial ?_;clear l;try simp only [Act.put,List.setIfInBounds_toArray]
     refine ie 4 ?v4_15 rfl (by kernel_rfl) (fun _ _ _ h=>h) (by rfl) ?y4_15 trivial ?_
     case y4_15=>(intro u a;go_simp;try rfl)
     simp only [Act.put];refine iF rfl (by kernel_rfl) (by kernel_rfl) (by rfl) ?_;go_simp;refine(jd _).mono ?_;rintro e D ⟨⟨H,rfl⟩,rfl⟩;go_wp2_with fail
     go_roundw
     case rel=>exact⟨2,c+1,by omega,by first | rfl | go_num,p,m⟩
     case measure=>simp [intOf]
    ·have C:((y:Int)==82)=false:=by simp;omega
     have m:Hid (rdLit ([82,82,1]) ((byt s).drop k)=none):=by
      unfold Hid;rw [<-r.out,HB.out,HX.out,rdLit,if_neg o]
     clear o;go_wp2_with fail
     refine iz (fun _=>True) 5 (by kernel_rfl) (by kernel_rfl) trivial ?_;intro x;refine ie 0 ?v0_16 rfl (by kernel_rfl) (fun _ _ _ h=>h) (by rfl) ?y0_16 trivial ?_
     case y0_16=>(intro u a;go_simp;try rfl)
     simp only [Act.put,List.setIfInBounds_toArray];refine ie 2 ?v2_17 rfl (by kernel_rfl) (fun _ _ _ h=>h) (by rfl) ?y2_17 trivial ?_
     case y2_17=>(intro u a;go_simp;try rfl)
     simp only [Act.put];refine ie 3 ?v3_18 rfl (by kernel_rfl) (fun _ _ _ h=>h) (by rfl) ?y3_18 trivial ?_
     case y3_18=>(intro u a;go_simp;try rfl)
     simp only [Act.put];refine iu (i:=1) rfl (by kernel_rfl) (by kernel_rfl) (by rfl) ?_;intro v d;have l:=ij d;clear d;go_simp;refine n.out.mono ?_;rintro e w6 ⟨rfl,f⟩;have p:=ij f;clear f;refine l.out _ _ trivial ?_;clear l;try simp only [Act.put,List.setIfInBounds_toArray]
     refine ie 4 ?v4_19 rfl (by kernel_rfl) (fun _ _ _ h=>h) (by rfl) ?y4_19 trivial ?_
     case y4_19=>(intro u a;go_simp;try rfl)
     simp only [Act.put];refine iF rfl (by kernel_rfl) (by kernel_rfl) (by rfl) ?_;go_simp;refine(i7 _).mono ?_;rintro e D ⟨rfl,rfl⟩;exact⟨rfl,Or.inl ⟨m.out,rfl,p.out.base⟩⟩
   ·have B:Hid ((byt s).drop c=[]):=List.drop_eq_nil_iff.2 (by rw [iL];omega);have n:=ij (kL W z.drew b c s (t.out.grown (iy (ir _ _))) A q);have m:Hid (rdLit ([82,82,1]) ((byt s).drop k)=none):=by
     unfold Hid;rw [<-r.out,B.out,HX.out,rdLit]
    go_wp2_with fail
    refine iz (fun _=>True) 5 (by kernel_rfl) (by kernel_rfl) trivial ?_;intro x;refine ie 0 ?v0_20 rfl (by kernel_rfl) (fun _ _ _ h=>h) (by rfl) ?y0_20 trivial ?_
    case y0_20=>(intro u a;go_simp;try rfl)
    simp only [Act.put,List.setIfInBounds_toArray];refine ie 2 ?v2_21 rfl (by kernel_rfl) (fun _ _ _ h=>h) (by rfl) ?y2_21 trivial ?_
    case y2_21=>(intro u a;go_simp;try rfl)
    simp only [Act.put];refine ie 3 ?v3_22 rfl (by kernel_rfl) (fun _ _ _ h=>h) (by rfl) ?y3_22 trivial ?_
    case y3_22=>(intro u a;go_simp;try rfl)
    simp only [Act.put];refine iu (i:=1) rfl (by kernel_rfl) (by kernel_rfl) (by rfl) ?_;intro v d;have l:=ij d;clear d;go_simp;refine n.out.mono ?_;rintro e w6 ⟨rfl,f⟩;exact⟨rfl,Or.inl ⟨m.out,rfl,f⟩⟩
  ·have HX:Hid (([82,82,1]:List Nat).drop 2=1::[82,82,1].drop 3):=rfl;have G:(({ data:= #[82,82,1]}:ByteArray)[2]).toNat=1:=rfl;by_cases q:c<s.size
   ·have HB:=ij (jA s c q);have n:=ij (kM W z.drew b c s (t.out.grown (iy (ir _ _))) A q);generalize s[c].toNat=y at*;by_cases o:y=1
    ·have C:((y:Int)==1)=true:=by simp;omega
     have m:Hid (rdLit (([82,82,1]).drop (3)) ((byt s).drop (c+1))=rdLit ([82,82,1]) ((byt s).drop k)):=by
      unfold Hid;rw [<-r.out,HB.out,HX.out,rdLit,if_pos o]
     clear o;go_wp2_with fail
     refine iz (fun _=>True) 5 (by kernel_rfl) (by kernel_rfl) trivial ?_;intro x;refine ie 0 ?v0_23 rfl (by kernel_rfl) (fun _ _ _ h=>h) (by rfl) ?y0_23 trivial ?_
     case y0_23=>(intro u a;go_simp;try rfl)
     simp only [Act.put,List.setIfInBounds_toArray];refine ie 2 ?v2_24 rfl (by kernel_rfl) (fun _ _ _ h=>h) (by rfl) ?y2_24 trivial ?_
     case y2_24=>(intro u a;go_simp;try rfl)
     simp only [Act.put];refine ie 3 ?v3_25 rfl (by kernel_rfl) (fun _ _ _ h=>h) (by rfl) ?y3_25 trivial ?_
     case y3_25=>(intro u a;go_simp;try rfl)
     simp only [Act.put];refine iu (i:=1) rfl (by kernel_rfl) (by kernel_rfl) (by rfl) ?_;intro v d;have l:=ij d;clear d;go_simp;refine n.out.mono ?_;rintro e w6 ⟨rfl,f⟩;have p:=ij f;clear f;refine l.out _ _ trivial ?_;clear l;try simp only [Act.put,List.setIfInBounds_toArray]
     refine ie 4 ?v4_26 rfl (by kernel_rfl) (fun _ _ _ h=>h) (by rfl) ?y4_26 trivial ?_
     case y4_26=>(intro u a;go_simp;try rfl)
     simp only [Act.put];refine iF rfl (by kernel_rfl) (by kernel_rfl) (by rfl) ?_;go_simp;refine(jd _).mono ?_;rintro e D ⟨⟨H,rfl⟩,rfl⟩;go_wp2_with fail
     go_roundw
     case rel=>exact⟨3,c+1,by omega,by first | rfl | go_num,p,m⟩
     case measure=>simp [intOf]
    ·have C:((y:Int)==1)=false:=by simp;omega
     have m:Hid (rdLit ([82,82,1]) ((byt s).drop k)=none):=by
      unfold Hid;rw [<-r.out,HB.out,HX.out,rdLit,if_neg o]
     clear o;go_wp2_with fail
     refine iz (fun _=>True) 5 (by kernel_rfl) (by kernel_rfl) trivial ?_;intro x;refine ie 0 ?v0_27 rfl (by kernel_rfl) (fun _ _ _ h=>h) (by rfl) ?y0_27 trivial ?_
     case y0_27=>(intro u a;go_simp;try rfl)
     simp only [Act.put,List.setIfInBounds_toArray];refine ie 2 ?v2_28 rfl (by kernel_rfl) (fun _ _ _ h=>h) (by rfl) ?y2_28 trivial ?_
     case y2_28=>(intro u a;go_simp;try rfl)
     simp only [Act.put];refine ie 3 ?v3_29 rfl (by kernel_rfl) (fun _ _ _ h=>h) (by rfl) ?y3_29 trivial ?_
     case y3_29=>(intro u a;go_simp;try rfl)
     simp only [Act.put];refine iu (i:=1) rfl (by kernel_rfl) (by kernel_rfl) (by rfl) ?_;intro v d;have l:=ij d;clear d;go_simp;refine n.out.mono ?_;rintro e w6 ⟨rfl,f⟩;have p:=ij f;clear f;refine l.out _ _ trivial ?_;clear l;try simp only [Act.put,List.setIfInBounds_toArray]
     refine ie 4 ?v4_30 rfl (by kernel_rfl) (fun _ _ _ h=>h) (by rfl) ?y4_30 trivial ?_
     case y4_30=>(intro u a;go_simp;try rfl)
     simp only [Act.put];refine iF rfl (by kernel_rfl) (by kernel_rfl) (by rfl) ?_;go_simp;refine(i7 _).mono ?_;rintro e D ⟨rfl,rfl⟩;exact⟨rfl,Or.inl ⟨m.out,rfl,p.out.base⟩⟩
   ·have B:Hid ((byt s).drop c=[]):=List.drop_eq_nil_iff.2 (by rw [iL];omega);have n:=ij (kL W z.drew b c s (t.out.grown (iy (ir _ _))) A q);have m:Hid (rdLit ([82,82,1]) ((byt s).drop k)=none):=by
     unfold Hid;rw [<-r.out,B.out,HX.out,rdLit]
    go_wp2_with fail
    refine iz (fun _=>True) 5 (by kernel_rfl) (by kernel_rfl) trivial ?_;intro x;refine ie 0 ?v0_31 rfl (by kernel_rfl) (fun _ _ _ h=>h) (by rfl) ?y0_31 trivial ?_
    case y0_31=>(intro u a;go_simp;try rfl)
    simp only [Act.put,List.setIfInBounds_toArray];refine ie 2 ?v2_32 rfl (by kernel_rfl) (fun _ _ _ h=>h) (by rfl) ?y2_32 trivial ?_
    case y2_32=>(intro u a;go_simp;try rfl)
    simp only [Act.put];refine ie 3 ?v3_33 rfl (by kernel_rfl) (fun _ _ _ h=>h) (by rfl) ?y3_33 trivial ?_
    case y3_33=>(intro u a;go_simp;try rfl)
    simp only [Act.put];refine iu (i:=1) rfl (by kernel_rfl) (by kernel_rfl) (by rfl) ?_;intro v d;have l:=ij d;clear d;go_simp;refine n.out.mono ?_;rintro e w6 ⟨rfl,f⟩;exact⟨rfl,Or.inl ⟨m.out,rfl,f⟩⟩
  ·have m:Hid (rdLit [82,82,1] ((byt s).drop k)=some ((),(byt s).drop c)):=by
    unfold Hid;rw [<-r.out];rfl
   go_wp2_with fail
   go_end0
   exact Or.inr ⟨(),_,_,c,m.out,rfl,trivial,t.out,rfl⟩
theorem xD(s:ByteArray)(k:Nat)(_h:k<=s.size):byt (s.extract 0 k)=(byt s).take k:=by
 unfold byt;rw [ByteArray.data_extract,Array.toList_extract,List.map_take];simp
theorem zO(W w:World)(b k:Nat)(s:ByteArray)(h:RdS W w b s k)(B:s.size<=9223372036854775806):
  Calls Tryz.prog 140 #[pt b] w (Rd W b s (fun _ _ _=>True) (rdLit (leB 4 (crcN ((byt s).take k))) ((byt s).drop k))):=by
 have G:=ij h;have L:pt b= .pointer (some ⟨b,0,none⟩):=rfl;rw [L];clear h L;have c0:=G.out.c0;have c1:=G.out.c1;have q0:(0:Int)<=(k:Int):=by omega
 have q1:(k:Int)<=s.size:=by have:=G.out.le;omega
 have Q:k<=s.size:=G.out.le;have J:=ij (pP (s.extract 0 k) w.drew (by simp;omega));rw [xD s k Q]at J;have hC:crcN ((byt s).take k)<4294967296:=uM _ (fun x hx=>qJ s x (List.mem_of_mem_take hx));generalize crcN ((byt s).take k)=C at*;go_enter Tryz.func140,Tryz.ntmps140
 go_wp2_with fail
 go_still_tail 9,(by kernel_rfl)
 have N:Hid (RdS W w.drew b s k):=G.out.grown (iy (ir _ _));clear c0 c1 G;go_wp2_with (go_at_call 135;refine J.out.mono ?_;rintro e w2 ⟨rfl,K⟩;have O:=ij (N.out.grown (iH K));clear K)
 go_loopw [14] (fun i w'=>∃ (j c:Nat),j<=4/\i= .int .i64 j/\Hid (RdS W w' b s c)/\Hid (rdLit ((leB 4 C).drop j) ((byt s).drop c)=rdLit (leB 4 C) ((byt s).drop k))) (fun i _=>4 - (intOf i).toNat)
 case atStart=>exact⟨0,k,by omega,rfl,O,ij rfl⟩
 case round=>
  obtain⟨j,c,hj,rfl,z,r⟩:=hrel;obtain⟨A,M⟩:∃ A,A=wr:=⟨_,rfl⟩;rw [<-M]at z ⊢;clear M;have P:j=0\/j=1\/j=2\/j=3\/j=4:=by omega
  rcases P with rfl | rfl | rfl | rfl | rfl
  ·have HX:Hid ((leB 4 C).drop 0=(C % 256)::(leB 4 C).drop 1):=by unfold Hid;simp [leB,Nat.div_div_eq_div_mul]
   have H:IntKind.i64.wrap 0=0:=by decide
   by_cases q:c<s.size
   ·have HB:=ij (jA s c q);have n:=ij (kM W A.drew b c s (z.out.grown (iy (ir _ _))) B q);generalize s[c].toNat=y at*;by_cases o:y=C % 256
    ·have E:((y:Int)==IntKind.u8.wrap ((C:Int)))=true:=by rw [IntKind.wrap_u8'];simp;omega
     have m:Hid (rdLit ((leB 4 C).drop (1)) ((byt s).drop (c+1))=rdLit (leB 4 C) ((byt s).drop k)):=by
      unfold Hid;rw [<-r.out,HB.out,HX.out,rdLit,if_pos o]
     clear o;go_wp2_with fail
     refine iz (fun _=>True) 8 (by kernel_rfl) (by kernel_rfl) trivial ?_;intro v;refine ie 0 ?v0_1 rfl (by kernel_rfl) (fun _ _ _ h=>h) (by rfl) ?y0_1 trivial ?_
     case y0_1=>(intro u a;go_simp;try rfl)
     simp only [Act.put,List.setIfInBounds_toArray];refine ie 2 ?v2_2 rfl (by kernel_rfl) (fun _ _ _ h=>h) (by rfl) ?y2_2 trivial ?_
     case y2_2=>(intro u a;go_simp;try rfl)
     simp only [Act.put];refine ie 3 ?v3_3 rfl (by kernel_rfl) (fun _ _ _ h=>h) (by rfl) ?y3_3 trivial ?_
     case y3_3=>(intro u a;go_simp;try rfl)
     simp only [Act.put];refine ie 4 ?v4_4 rfl (by kernel_rfl) (fun _ _ _ h=>h) (by rfl) ?y4_4 trivial ?_
     case y4_4=>(intro u a;go_simp;try rfl)
     simp only [Act.put];refine ie 5 ?v5_5 rfl (by kernel_rfl) (fun _ _ _ h=>h) (by rfl) ?y5_5 trivial ?_
     case y5_5=>(intro u a;go_simp;try rfl)
     simp only [Act.put];refine ie 6 ?v6_6 rfl (by kernel_rfl) (fun _ _ _ h=>h) (by rfl) ?y6_6 trivial ?_
     case y6_6=>(intro u a;go_simp;try rfl)
     simp only [Act.put];refine iu (i:=1) rfl (by kernel_rfl) (by kernel_rfl) (by rfl) ?_;intro t d;have l:=ij d;clear d;go_simp;refine n.out.mono ?_;rintro e w6 ⟨rfl,f⟩;have p:=ij f;clear f;refine l.out _ _ trivial ?_;clear l;try simp only [Act.put,List.setIfInBounds_toArray]
     refine ie 7 ?v7_7 rfl (by kernel_rfl) (fun _ _ _ h=>h) (by rfl) ?y7_7 trivial ?_
     case y7_7=>(intro u a;go_simp;try rfl)
     simp only [Act.put];refine iF rfl (by kernel_rfl) (by kernel_rfl) (by rfl) ?_;go_simp;refine(jd _).mono ?_;rintro e F ⟨⟨I,rfl⟩,rfl⟩;go_wp2_with fail
     go_roundw
     case rel=>exact⟨1,c+1,by omega,by first | rfl | go_num,p,m⟩
     case measure=>simp [intOf]
    ·have E:((y:Int)==IntKind.u8.wrap ((C:Int)))=false:=by rw [IntKind.wrap_u8'];simp;omega
     have m:Hid (rdLit (leB 4 C) ((byt s).drop k)=none):=by
      unfold Hid;rw [<-r.out,HB.out,HX.out,rdLit,if_neg o]
     clear o;go_wp2_with fail
     refine iz (fun _=>True) 8 (by kernel_rfl) (by kernel_rfl) trivial ?_;intro v;refine ie 0 ?v0_8 rfl (by kernel_rfl) (fun _ _ _ h=>h) (by rfl) ?y0_8 trivial ?_
     case y0_8=>(intro u a;go_simp;try rfl)
     simp only [Act.put,List.setIfInBounds_toArray];refine ie 2 ?v2_9 rfl (by kernel_rfl) (fun _ _ _ h=>h) (by rfl) ?y2_9 trivial ?_
     case y2_9=>(intro u a;go_simp;try rfl)
     simp only [Act.put];refine ie 3 ?v3_10 rfl (by kernel_rfl) (fun _ _ _ h=>h) (by rfl) ?y3_10 trivial ?_
     case y3_10=>(intro u a;go_simp;try rfl)
     simp only [Act.put];refine ie 4 ?v4_11 rfl (by kernel_rfl) (fun _ _ _ h=>h) (by rfl) ?y4_11 trivial ?_
     case y4_11=>(intro u a;go_simp;try rfl)
     simp only [Act.put];refine ie 5 ?v5_12 rfl (by kernel_rfl) (fun _ _ _ h=>h) (by rfl) ?y5_12 trivial ?_
     case y5_12=>(intro u a;go_simp;try rfl)
     simp only [Act.put];refine ie 6 ?v6_13 rfl (by kernel_rfl) (fun _ _ _ h=>h) (by rfl) ?y6_13 trivial ?_
     case y6_13=>(intro u a;go_simp;try rfl)
     simp only [Act.put];refine iu (i:=1) rfl (by kernel_rfl) (by kernel_rfl) (by rfl) ?_;intro t d;have l:=ij d;clear d;go_simp;refine n.out.mono ?_;rintro e w6 ⟨rfl,f⟩;have p:=ij f;clear f;refine l.out _ _ trivial ?_;clear l;try simp only [Act.put,List.setIfInBounds_toArray]
     refine ie 7 ?v7_14 rfl (by kernel_rfl) (fun _ _ _ h=>h) (by rfl) ?y7_14 trivial ?_
     case y7_14=>(intro u a;go_simp;try rfl)
     simp only [Act.put];refine iF rfl (by kernel_rfl) (by kernel_rfl) (by rfl) ?_;go_simp;refine(i7 _).mono ?_;rintro e F ⟨rfl,rfl⟩;exact⟨rfl,Or.inl ⟨m.out,rfl,p.out.base⟩⟩
   ·have D:Hid ((byt s).drop c=[]):=List.drop_eq_nil_iff.2 (by rw [iL];omega);have n:=ij (kL W A.drew b c s (z.out.grown (iy (ir _ _))) B q);have m:Hid (rdLit (leB 4 C) ((byt s).drop k)=none):=by
     unfold Hid;rw [<-r.out,D.out,HX.out,rdLit]
    go_wp2_with fail
    refine iz (fun _=>True) 8 (by kernel_rfl) (by kernel_rfl) trivial ?_;intro v;refine ie 0 ?v0_15 rfl (by kernel_rfl) (fun _ _ _ h=>h) (by rfl) ?y0_15 trivial ?_
    case y0_15=>(intro u a;go_simp;try rfl)
    simp only [Act.put,List.setIfInBounds_toArray];refine ie 2 ?v2_16 rfl (by kernel_rfl) (fun _ _ _ h=>h) (by rfl) ?y2_16 trivial ?_
    case y2_16=>(intro u a;go_simp;try rfl)
    simp only [Act.put];refine ie 3 ?v3_17 rfl (by kernel_rfl) (fun _ _ _ h=>h) (by rfl) ?y3_17 trivial ?_
    case y3_17=>(intro u a;go_simp;try rfl)
    simp only [Act.put];refine ie 4 ?v4_18 rfl (by kernel_rfl) (fun _ _ _ h=>h) (by rfl) ?y4_18 trivial ?_
    case y4_18=>(intro u a;go_simp;try rfl)
    simp only [Act.put];refine ie 5 ?v5_19 rfl (by kernel_rfl) (fun _ _ _ h=>h) (by rfl) ?y5_19 trivial ?_
    case y5_19=>(intro u a;go_simp;try rfl)
    simp only [Act.put];refine ie 6 ?v6_20 rfl (by kernel_rfl) (fun _ _ _ h=>h) (by rfl) ?y6_20 trivial ?_
    case y6_20=>(intro u a;go_simp;try rfl)
    simp only [Act.put];refine iu (i:=1) rfl (by kernel_rfl) (by kernel_rfl) (by rfl) ?_;intro t d;have l:=ij d;clear d;go_simp;refine n.out.mono ?_;rintro e w6 ⟨rfl,f⟩;exact⟨rfl,Or.inl ⟨m.out,rfl,f⟩⟩
  ·have HX:Hid ((leB 4 C).drop 1=(C / 256 % 256)::(leB 4 C).drop 2):=by unfold Hid;simp [leB,Nat.div_div_eq_div_mul]
   have H:IntKind.i64.wrap 8=8:=by decide
   by_cases q:c<s.size
   ·have HB:=ij (jA s c q);have n:=ij (kM W A.drew b c s (z.out.grown (iy (ir _ _))) B q);generalize s[c].toNat=y at*;by_cases o:y=C / 256 % 256
    ·have E:((y:Int)==IntKind.u8.wrap ((C:Int) / 256))=true:=by rw [IntKind.wrap_u8'];simp;omega
     have m:Hid (rdLit ((leB 4 C).drop (2)) ((byt s).drop (c+1))=rdLit (leB 4 C) ((byt s).drop k)):=by
      unfold Hid;rw [<-r.out,HB.out,HX.out,rdLit,if_pos o]
     clear o;go_wp2_with fail
     refine iz (fun _=>True) 8 (by kernel_rfl) (by kernel_rfl) trivial ?_;intro v;refine ie 0 ?v0_21 rfl (by kernel_rfl) (fun _ _ _ h=>h) (by rfl) ?y0_21 trivial ?_
     case y0_21=>(intro u a;go_simp;try rfl)
     simp only [Act.put,List.setIfInBounds_toArray];refine ie 2 ?v2_22 rfl (by kernel_rfl) (fun _ _ _ h=>h) (by rfl) ?y2_22 trivial ?_
     case y2_22=>(intro u a;go_simp;try rfl)
     simp only [Act.put];refine ie 3 ?v3_23 rfl (by kernel_rfl) (fun _ _ _ h=>h) (by rfl) ?y3_23 trivial ?_
     case y3_23=>(intro u a;go_simp;try rfl)
     simp only [Act.put];refine ie 4 ?v4_24 rfl (by kernel_rfl) (fun _ _ _ h=>h) (by rfl) ?y4_24 trivial ?_
     case y4_24=>(intro u a;go_simp;try rfl)
     simp only [Act.put];refine ie 5 ?v5_25 rfl (by kernel_rfl) (fun _ _ _ h=>h) (by rfl) ?y5_25 trivial ?_
     case y5_25=>(intro u a;go_simp;try rfl)
     simp only [Act.put];refine ie 6 ?v6_26 rfl (by kernel_rfl) (fun _ _ _ h=>h) (by rfl) ?y6_26 trivial ?_
     case y6_26=>(intro u a;go_simp;try rfl)
     simp only [Act.put];refine iu (i:=1) rfl (by kernel_rfl) (by kernel_rfl) (by rfl) ?_;intro t d;have l:=ij d;clear d;go_simp;refine n.out.mono ?_;rintro e w6 ⟨rfl,f⟩;have p:=ij f;clear f;refine l.out _ _ trivial ?_;clear l;try simp only [Act.put,List.setIfInBounds_toArray]
     refine ie 7 ?v7_27 rfl (by kernel_rfl) (fun _ _ _ h=>h) (by rfl) ?y7_27 trivial ?_
     case y7_27=>(intro u a;go_simp;try rfl)
     simp only [Act.put];refine iF rfl (by kernel_rfl) (by kernel_rfl) (by rfl) ?_;go_simp;refine(jd _).mono ?_;rintro e F ⟨⟨I,rfl⟩,rfl⟩;go_wp2_with fail
     go_roundw
     case rel=>exact⟨2,c+1,by omega,by first | rfl | go_num,p,m⟩
     case measure=>simp [intOf]
    ·have E:((y:Int)==IntKind.u8.wrap ((C:Int) / 256))=false:=by rw [IntKind.wrap_u8'];simp;omega
     have m:Hid (rdLit (leB 4 C) ((byt s).drop k)=none):=by
      unfold Hid;rw [<-r.out,HB.out,HX.out,rdLit,if_neg o]
     clear o;go_wp2_with fail
     refine iz (fun _=>True) 8 (by kernel_rfl) (by kernel_rfl) trivial ?_;intro v;refine ie 0 ?v0_28 rfl (by kernel_rfl) (fun _ _ _ h=>h) (by rfl) ?y0_28 trivial ?_
     case y0_28=>(intro u a;go_simp;try rfl)
     simp only [Act.put,List.setIfInBounds_toArray];refine ie 2 ?v2_29 rfl (by kernel_rfl) (fun _ _ _ h=>h) (by rfl) ?y2_29 trivial ?_
     case y2_29=>(intro u a;go_simp;try rfl)
     simp only [Act.put];refine ie 3 ?v3_30 rfl (by kernel_rfl) (fun _ _ _ h=>h) (by rfl) ?y3_30 trivial ?_
     case y3_30=>(intro u a;go_simp;try rfl)
     simp only [Act.put];refine ie 4 ?v4_31 rfl (by kernel_rfl) (fun _ _ _ h=>h) (by rfl) ?y4_31 trivial ?_
     case y4_31=>(intro u a;go_simp;try rfl)
     simp only [Act.put];refine ie 5 ?v5_32 rfl (by kernel_rfl) (fun _ _ _ h=>h) (by rfl) ?y5_32 trivial ?_
     case y5_32=>(intro u a;go_simp;try rfl)
     simp only [Act.put];refine ie 6 ?v6_33 rfl (by kernel_rfl) (fun _ _ _ h=>h) (by rfl) ?y6_33 trivial ?_
     case y6_33=>(intro u a;go_simp;try rfl)
     simp only [Act.put];refine iu (i:=1) rfl (by kernel_rfl) (by kernel_rfl) (by rfl) ?_;intro t d;have l:=ij d;clear d;go_simp;refine n.out.mono ?_;rintro e w6 ⟨rfl,f⟩;have p:=ij f;clear f;refine l.out _ _ trivial ?_;clear l;try simp only [Act.put,List.setIfInBounds_toArray]
     refine ie 7 ?v7_34 rfl (by kernel_rfl) (fun _ _ _ h=>h) (by rfl) ?y7_34 trivial ?_
     case y7_34=>(intro u a;go_simp;try rfl)
     simp only [Act.put];refine iF rfl (by kernel_rfl) (by kernel_rfl) (by rfl) ?_;go_simp;refine(i7 _).mono ?_;rintro e F ⟨rfl,rfl⟩;exact⟨rfl,Or.inl ⟨m.out,rfl,p.out.base⟩⟩
   ·have D:Hid ((byt s).drop c=[]):=List.drop_eq_nil_iff.2 (by rw [iL];omega);have n:=ij (kL W A.drew b c s (z.out.grown (iy (ir _ _))) B q);have m:Hid (rdLit (leB 4 C) ((byt s).drop k)=none):=by
     unfold Hid;rw [<-r.out,D.out,HX.out,rdLit]
    go_wp2_with fail
    refine iz (fun _=>True) 8 (by kernel_rfl) (by kernel_rfl) trivial ?_;intro v;refine ie 0 ?v0_35 rfl (by kernel_rfl) (fun _ _ _ h=>h) (by rfl) ?y0_35 trivial ?_
    case y0_35=>(intro u a;go_simp;try rfl)
    simp only [Act.put,List.setIfInBounds_toArray];refine ie 2 ?v2_36 rfl (by kernel_rfl) (fun _ _ _ h=>h) (by rfl) ?y2_36 trivial ?_
    case y2_36=>(intro u a;go_simp;try rfl)
    simp only [Act.put];refine ie 3 ?v3_37 rfl (by kernel_rfl) (fun _ _ _ h=>h) (by rfl) ?y3_37 trivial ?_
    case y3_37=>(intro u a;go_simp;try rfl)
    simp only [Act.put];refine ie 4 ?v4_38 rfl (by kernel_rfl) (fun _ _ _ h=>h) (by rfl) ?y4_38 trivial ?_
    case y4_38=>(intro u a;go_simp;try rfl)
    simp only [Act.put];refine ie 5 ?v5_39 rfl (by kernel_rfl) (fun _ _ _ h=>h) (by rfl) ?y5_39 trivial ?_
    case y5_39=>(intro u a;go_simp;try rfl)
    simp only [Act.put];refine ie 6 ?v6_40 rfl (by kernel_rfl) (fun _ _ _ h=>h) (by rfl) ?y6_40 trivial ?_
    case y6_40=>(intro u a;go_simp;try rfl)
    simp only [Act.put];refine iu (i:=1) rfl (by kernel_rfl) (by kernel_rfl) (by rfl) ?_;intro t d;have l:=ij d;clear d;go_simp;refine n.out.mono ?_;rintro e w6 ⟨rfl,f⟩;exact⟨rfl,Or.inl ⟨m.out,rfl,f⟩⟩
  ·have HX:Hid ((leB 4 C).drop 2=(C / 65536 % 256)::(leB 4 C).drop 3):=by unfold Hid;simp [leB,Nat.div_div_eq_div_mul]
   have H:IntKind.i64.wrap 16=16:=by decide
   by_cases q:c<s.size
   ·have HB:=ij (jA s c q);have n:=ij (kM W A.drew b c s (z.out.grown (iy (ir _ _))) B q);generalize s[c].toNat=y at*;by_cases o:y=C / 65536 % 256
    ·have E:((y:Int)==IntKind.u8.wrap ((C:Int) / 65536))=true:=by rw [IntKind.wrap_u8'];simp;omega
     have m:Hid (rdLit ((leB 4 C).drop (3)) ((byt s).drop (c+1))=rdLit (leB 4 C) ((byt s).drop k)):=by
      unfold Hid;rw [<-r.out,HB.out,HX.out,rdLit,if_pos o]
     clear o;go_wp2_with fail
     refine iz (fun _=>True) 8 (by kernel_rfl) (by kernel_rfl) trivial ?_;intro v;refine ie 0 ?v0_41 rfl (by kernel_rfl) (fun _ _ _ h=>h) (by rfl) ?y0_41 trivial ?_
     case y0_41=>(intro u a;go_simp;try rfl)
     simp only [Act.put,List.setIfInBounds_toArray];refine ie 2 ?v2_42 rfl (by kernel_rfl) (fun _ _ _ h=>h) (by rfl) ?y2_42 trivial ?_
     case y2_42=>(intro u a;go_simp;try rfl)
     simp only [Act.put];refine ie 3 ?v3_43 rfl (by kernel_rfl) (fun _ _ _ h=>h) (by rfl) ?y3_43 trivial ?_
     case y3_43=>(intro u a;go_simp;try rfl)
     simp only [Act.put];refine ie 4 ?v4_44 rfl (by kernel_rfl) (fun _ _ _ h=>h) (by rfl) ?y4_44 trivial ?_
     case y4_44=>(intro u a;go_simp;try rfl)
     simp only [Act.put];refine ie 5 ?v5_45 rfl (by kernel_rfl) (fun _ _ _ h=>h) (by rfl) ?y5_45 trivial ?_
     case y5_45=>(intro u a;go_simp;try rfl)
     simp only [Act.put];refine ie 6 ?v6_46 rfl (by kernel_rfl) (fun _ _ _ h=>h) (by rfl) ?y6_46 trivial ?_
     case y6_46=>(intro u a;go_simp;try rfl)
     simp only [Act.put];refine iu (i:=1) rfl (by kernel_rfl) (by kernel_rfl) (by rfl) ?_;intro t d;have l:=ij d;clear d;go_simp;refine n.out.mono ?_;rintro e w6 ⟨rfl,f⟩;have p:=ij f;clear f;refine l.out _ _ trivial ?_;clear l;try simp only [Act.put,List.setIfInBounds_toArray]
     refine ie 7 ?v7_47 rfl (by kernel_rfl) (fun _ _ _ h=>h) (by rfl) ?y7_47 trivial ?_
     case y7_47=>(intro u a;go_simp;try rfl)
     simp only [Act.put];refine iF rfl (by kernel_rfl) (by kernel_rfl) (by rfl) ?_;go_simp;refine(jd _).mono ?_;rintro e F ⟨⟨I,rfl⟩,rfl⟩;go_wp2_with fail
     go_roundw
     case rel=>exact⟨3,c+1,by omega,by first | rfl | go_num,p,m⟩
     case measure=>simp [intOf]
    ·have E:((y:Int)==IntKind.u8.wrap ((C:Int) / 65536))=false:=by rw [IntKind.wrap_u8'];simp;omega
     have m:Hid (rdLit (leB 4 C) ((byt s).drop k)=none):=by
      unfold Hid;rw [<-r.out,HB.out,HX.out,rdLit,if_neg o]
     clear o;go_wp2_with fail
     refine iz (fun _=>True) 8 (by kernel_rfl) (by kernel_rfl) trivial ?_;intro v;refine ie 0 ?v0_48 rfl (by kernel_rfl) (fun _ _ _ h=>h) (by rfl) ?y0_48 trivial ?_
     case y0_48=>(intro u a;go_simp;try rfl)
     simp only [Act.put,List.setIfInBounds_toArray];refine ie 2 ?v2_49 rfl (by kernel_rfl) (fun _ _ _ h=>h) (by rfl) ?y2_49 trivial ?_
     case y2_49=>(intro u a;go_simp;try rfl)
     simp only [Act.put];refine ie 3 ?v3_50 rfl (by kernel_rfl) (fun _ _ _ h=>h) (by rfl) ?y3_50 trivial ?_
     case y3_50=>(intro u a;go_simp;try rfl)
     simp only [Act.put];refine ie 4 ?v4_51 rfl (by kernel_rfl) (fun _ _ _ h=>h) (by rfl) ?y4_51 trivial ?_
     case y4_51=>(intro u a;go_simp;try rfl)
     simp only [Act.put];refine ie 5 ?v5_52 rfl (by kernel_rfl) (fun _ _ _ h=>h) (by rfl) ?y5_52 trivial ?_
     case y5_52=>(intro u a;go_simp;try rfl)
     simp only [Act.put];refine ie 6 ?v6_53 rfl (by kernel_rfl) (fun _ _ _ h=>h) (by rfl) ?y6_53 trivial ?_
     case y6_53=>(intro u a;go_simp;try rfl)
     simp only [Act.put];refine iu (i:=1) rfl (by kernel_rfl) (by kernel_rfl) (by rfl) ?_;intro t d;have l:=ij d;clear d;go_simp;refine n.out.mono ?_;rintro e w6 ⟨rfl,f⟩;have p:=ij f;clear f;refine l.out _ _ trivial ?_;clear l;try simp only [Act.put,List.setIfInBounds_toArray]
     refine ie 7 ?v7_54 rfl (by kernel_rfl) (fun _ _ _ h=>h) (by rfl) ?y7_54 trivial ?_
     case y7_54=>(intro u a;go_simp;try rfl)
     simp only [Act.put];refine iF rfl (by kernel_rfl) (by kernel_rfl) (by rfl) ?_;go_simp;refine(i7 _).mono ?_;rintro e F ⟨rfl,rfl⟩;exact⟨rfl,Or.inl ⟨m.out,rfl,p.out.base⟩⟩
   ·have D:Hid ((byt s).drop c=[]):=List.drop_eq_nil_iff.2 (by rw [iL];omega);have n:=ij (kL W A.drew b c s (z.out.grown (iy (ir _ _))) B q);have m:Hid (rdLit (leB 4 C) ((byt s).drop k)=none):=by
     unfold Hid;rw [<-r.out,D.out,HX.out,rdLit]
    go_wp2_with fail
    refine iz (fun _=>True) 8 (by kernel_rfl) (by kernel_rfl) trivial ?_;intro v;refine ie 0 ?v0_55 rfl (by kernel_rfl) (fun _ _ _ h=>h) (by rfl) ?y0_55 trivial ?_
    case y0_55=>(intro u a;go_simp;try rfl)
    simp only [Act.put,List.setIfInBounds_toArray];refine ie 2 ?v2_56 rfl (by kernel_rfl) (fun _ _ _ h=>h) (by rfl) ?y2_56 trivial ?_
    case y2_56=>(intro u a;go_simp;try rfl)
    simp only [Act.put];refine ie 3 ?v3_57 rfl (by kernel_rfl) (fun _ _ _ h=>h) (by rfl) ?y3_57 trivial ?_
    case y3_57=>(intro u a;go_simp;try rfl)
    simp only [Act.put];refine ie 4 ?v4_58 rfl (by kernel_rfl) (fun _ _ _ h=>h) (by rfl) ?y4_58 trivial ?_
    case y4_58=>(intro u a;go_simp;try rfl)
    simp only [Act.put];refine ie 5 ?v5_59 rfl (by kernel_rfl) (fun _ _ _ h=>h) (by rfl) ?y5_59 trivial ?_
    case y5_59=>(intro u a;go_simp;try rfl)
    simp only [Act.put];refine ie 6 ?v6_60 rfl (by kernel_rfl) (fun _ _ _ h=>h) (by rfl) ?y6_60 trivial ?_
    case y6_60=>(intro u a;go_simp;try rfl)
    simp only [Act.put];refine iu (i:=1) rfl (by kernel_rfl) (by kernel_rfl) (by rfl) ?_;intro t d;have l:=ij d;clear d;go_simp;refine n.out.mono ?_;rintro e w6 ⟨rfl,f⟩;exact⟨rfl,Or.inl ⟨m.out,rfl,f⟩⟩
  ·have HX:Hid ((leB 4 C).drop 3=(C / 16777216 % 256)::(leB 4 C).drop 4):=by unfold Hid;simp [leB,Nat.div_div_eq_div_mul]
   have H:IntKind.i64.wrap 24=24:=by decide
   by_cases q:c<s.size
   ·have HB:=ij (jA s c q);have n:=ij (kM W A.drew b c s (z.out.grown (iy (ir _ _))) B q);generalize s[c].toNat=y at*;by_cases o:y=C / 16777216 % 256
    ·have E:((y:Int)==IntKind.u8.wrap ((C:Int) / 16777216))=true:=by rw [IntKind.wrap_u8'];simp;omega
     have m:Hid (rdLit ((leB 4 C).drop (4)) ((byt s).drop (c+1))=rdLit (leB 4 C) ((byt s).drop k)):=by
      unfold Hid;rw [<-r.out,HB.out,HX.out,rdLit,if_pos o]
     clear o;go_wp2_with fail
     refine iz (fun _=>True) 8 (by kernel_rfl) (by kernel_rfl) trivial ?_;intro v;refine ie 0 ?v0_61 rfl (by kernel_rfl) (fun _ _ _ h=>h) (by rfl) ?y0_61 trivial ?_
     case y0_61=>(intro u a;go_simp;try rfl)
     simp only [Act.put,List.setIfInBounds_toArray];refine ie 2 ?v2_62 rfl (by kernel_rfl) (fun _ _ _ h=>h) (by rfl) ?y2_62 trivial ?_
     case y2_62=>(intro u a;go_simp;try rfl)
     simp only [Act.put];refine ie 3 ?v3_63 rfl (by kernel_rfl) (fun _ _ _ h=>h) (by rfl) ?y3_63 trivial ?_
     case y3_63=>(intro u a;go_simp;try rfl)
     simp only [Act.put];refine ie 4 ?v4_64 rfl (by kernel_rfl) (fun _ _ _ h=>h) (by rfl) ?y4_64 trivial ?_
     case y4_64=>(intro u a;go_simp;try rfl)
     simp only [Act.put];refine ie 5 ?v5_65 rfl (by kernel_rfl) (fun _ _ _ h=>h) (by rfl) ?y5_65 trivial ?_
     case y5_65=>(intro u a;go_simp;try rfl)
     simp only [Act.put];refine ie 6 ?v6_66 rfl (by kernel_rfl) (fun _ _ _ h=>h) (by rfl) ?y6_66 trivial ?_
     case y6_66=>(intro u a;go_simp;try rfl)
     simp only [Act.put];refine iu (i:=1) rfl (by kernel_rfl) (by kernel_rfl) (by rfl) ?_;intro t d;have l:=ij d;clear d;go_simp;refine n.out.mono ?_;rintro e w6 ⟨rfl,f⟩;have p:=ij f;clear f;refine l.out _ _ trivial ?_;clear l;try simp only [Act.put,List.setIfInBounds_toArray]
     refine ie 7 ?v7_67 rfl (by kernel_rfl) (fun _ _ _ h=>h) (by rfl) ?y7_67 trivial ?_
     case y7_67=>(intro u a;go_simp;try rfl)
     simp only [Act.put];refine iF rfl (by kernel_rfl) (by kernel_rfl) (by rfl) ?_;go_simp;refine(jd _).mono ?_;rintro e F ⟨⟨I,rfl⟩,rfl⟩;go_wp2_with fail
     go_roundw
     case rel=>exact⟨4,c+1,by omega,by first | rfl | go_num,p,m⟩
     case measure=>simp [intOf]
    ·have E:((y:Int)==IntKind.u8.wrap ((C:Int) / 16777216))=false:=by rw [IntKind.wrap_u8'];simp;omega
     have m:Hid (rdLit (leB 4 C) ((byt s).drop k)=none):=by
      unfold Hid;rw [<-r.out,HB.out,HX.out,rdLit,if_neg o]
     clear o;go_wp2_with fail
     refine iz (fun _=>True) 8 (by kernel_rfl) (by kernel_rfl) trivial ?_;intro v;refine ie 0 ?v0_68 rfl (by kernel_rfl) (fun _ _ _ h=>h) (by rfl) ?y0_68 trivial ?_
     case y0_68=>(intro u a;go_simp;try rfl)
     simp only [Act.put,List.setIfInBounds_toArray];refine ie 2 ?v2_69 rfl (by kernel_rfl) (fun _ _ _ h=>h) (by rfl) ?y2_69 trivial ?_
     case y2_69=>(intro u a;go_simp;try rfl)
     simp only [Act.put];refine ie 3 ?v3_70 rfl (by kernel_rfl) (fun _ _ _ h=>h) (by rfl) ?y3_70 trivial ?_
     case y3_70=>(intro u a;go_simp;try rfl)
     simp only [Act.put];refine ie 4 ?v4_71 rfl (by kernel_rfl) (fun _ _ _ h=>h) (by rfl) ?y4_71 trivial ?_
     case y4_71=>(intro u a;go_simp;try rfl)
     simp only [Act.put];refine ie 5 ?v5_72 rfl (by kernel_rfl) (fun _ _ _ h=>h) (by rfl) ?y5_72 trivial ?_
     case y5_72=>(intro u a;go_simp;try rfl)
     simp only [Act.put];refine ie 6 ?v6_73 rfl (by kernel_rfl) (fun _ _ _ h=>h) (by rfl) ?y6_73 trivial ?_
     case y6_73=>(intro u a;go_simp;try rfl)
     simp only [Act.put];refine iu (i:=1) rfl (by kernel_rfl) (by kernel_rfl) (by rfl) ?_;intro t d;have l:=ij d;clear d;go_simp;refine n.out.mono ?_;rintro e w6 ⟨rfl,f⟩;have p:=ij f;clear f;refine l.out _ _ trivial ?_;clear l;try simp only [Act.put,List.setIfInBounds_toArray]
     refine ie 7 ?v7_74 rfl (by kernel_rfl) (fun _ _ _ h=>h) (by rfl) ?y7_74 trivial ?_
     case y7_74=>(intro u a;go_simp;try rfl)
     simp only [Act.put];refine iF rfl (by kernel_rfl) (by kernel_rfl) (by rfl) ?_;go_simp;refine(i7 _).mono ?_;rintro e F ⟨rfl,rfl⟩;exact⟨rfl,Or.inl ⟨m.out,rfl,p.out.base⟩⟩
   ·have D:Hid ((byt s).drop c=[]):=List.drop_eq_nil_iff.2 (by rw [iL];omega);have n:=ij (kL W A.drew b c s (z.out.grown (iy (ir _ _))) B q);have m:Hid (rdLit (leB 4 C) ((byt s).drop k)=none):=by
     unfold Hid;rw [<-r.out,D.out,HX.out,rdLit]
    go_wp2_with fail
    refine iz (fun _=>True) 8 (by kernel_rfl) (by kernel_rfl) trivial ?_;intro v;refine ie 0 ?v0_75 rfl (by kernel_rfl) (fun _ _ _ h=>h) (by rfl) ?y0_75 trivial ?_
    case y0_75=>(intro u a;go_simp;try rfl)
    simp only [Act.put,List.setIfInBounds_toArray];refine ie 2 ?v2_76 rfl (by kernel_rfl) (fun _ _ _ h=>h) (by rfl) ?y2_76 trivial ?_
    case y2_76=>(intro u a;go_simp;try rfl)
    simp only [Act.put];refine ie 3 ?v3_77 rfl (by kernel_rfl) (fun _ _ _ h=>h) (by rfl) ?y3_77 trivial ?_
    case y3_77=>(intro u a;go_simp;try rfl)
    simp only [Act.put];refine ie 4 ?v4_78 rfl (by kernel_rfl) (fun _ _ _ h=>h) (by rfl) ?y4_78 trivial ?_
    case y4_78=>(intro u a;go_simp;try rfl)
    simp only [Act.put];refine ie 5 ?v5_79 rfl (by kernel_rfl) (fun _ _ _ h=>h) (by rfl) ?y5_79 trivial ?_
    case y5_79=>(intro u a;go_simp;try rfl)
    simp only [Act.put];refine ie 6 ?v6_80 rfl (by kernel_rfl) (fun _ _ _ h=>h) (by rfl) ?y6_80 trivial ?_
    case y6_80=>(intro u a;go_simp;try rfl)
    simp only [Act.put];refine iu (i:=1) rfl (by kernel_rfl) (by kernel_rfl) (by rfl) ?_;intro t d;have l:=ij d;clear d;go_simp;refine n.out.mono ?_;rintro e w6 ⟨rfl,f⟩;exact⟨rfl,Or.inl ⟨m.out,rfl,f⟩⟩
  ·have m:Hid (rdLit (leB 4 C) ((byt s).drop k)=some ((),(byt s).drop c)):=by
    unfold Hid;rw [<-r.out];rfl
   go_wp2_with fail
   go_end0
   exact Or.inr ⟨(),_,_,c,m.out,rfl,trivial,z.out,rfl⟩
def inB(x lo hi:Int):Bool:=decide (lo<=x) && decide (x<=hi)
theorem mZ(x b a:Int)(w:World):Calls Tryz.prog 132 #[.int .i64 x,.int .i64 b,.int .i64 a] w fun e w'=>e= .returned (.bool (inB x b a))/\w'=w:=by
 by_cases c:b<=x
 ·by_cases d:x<=a
  ·have HB:Hid (inB x b a=true):=by unfold Hid inB;simp [c,d]
   go_enter Tryz.func132,Tryz.ntmps132
   go_wp2_with fail
   go_ret;exact⟨by first | rfl | (rw [HB.out];rfl),rfl⟩
  ·have HB:Hid (inB x b a=false):=by unfold Hid inB;simp [d]
   have f:decide (x<=a)=false:=by simp;omega
   go_enter Tryz.func132,Tryz.ntmps132
   go_wp2_with fail
   go_ret;exact⟨by first | rfl | (rw [HB.out];rfl),rfl⟩
 ·have HB:Hid (inB x b a=false):=by unfold Hid inB;simp [c]
  have f:decide (b<=x)=false:=by simp;omega
  go_enter Tryz.func132,Tryz.ntmps132
  go_wp2_with fail
  go_ret;exact⟨by first | rfl | (rw [HB.out];rfl),rfl⟩
theorem mY(a b c:Int):verOk (a,b,c)=(inB a 1 5 && inB b 0 3 && inB c 0 500):=rfl
theorem pp(v:Int × Int × Int)(w:World):Calls Tryz.prog 91 #[verA v] w fun e w'=>e= .returned (.bool (verOk v))/\w.grownBy w' none:=by
 obtain⟨a,b,c⟩:=v;unfold verA;cases h1:inB a 1 5 with
 | false=>
  have d:Hid (verOk (a,b,c)=false):=by unfold Hid;rw [mY];simp only [h1];rfl
  go_enter Tryz.func91,Tryz.ntmps91
  go_wp2_with (go_at_call 132;refine(mZ _ _ _ _).mono ?_;rintro e f ⟨rfl,rfl⟩)
  go_ret;exact⟨by rw [d.out];rfl,iq (ir _ _)⟩
 | true=>
  cases h2:inB b 0 3 with
  | false=>
   have d:Hid (verOk (a,b,c)=false):=by unfold Hid;rw [mY];simp only [h1,h2];rfl
   go_enter Tryz.func91,Tryz.ntmps91
   go_wp2_with (go_at_call 132;refine(mZ _ _ _ _).mono ?_;rintro e f ⟨rfl,rfl⟩)
   go_ret;exact⟨by rw [d.out];rfl,iq (ir _ _)⟩
  | true=>
   cases h3:inB c 0 500 with
   | false=>
    have d:Hid (verOk (a,b,c)=false):=by unfold Hid;rw [mY];simp only [h1,h2,h3];rfl
    go_enter Tryz.func91,Tryz.ntmps91
    go_wp2_with (go_at_call 132;refine(mZ _ _ _ _).mono ?_;rintro e f ⟨rfl,rfl⟩)
    go_ret;exact⟨by rw [d.out];rfl,iq (ir _ _)⟩
   | true=>
    have d:Hid (verOk (a,b,c)=true):=by unfold Hid;rw [mY];simp only [h1,h2,h3];rfl
    go_enter Tryz.func91,Tryz.ntmps91
    go_wp2_with (go_at_call 132;refine(mZ _ _ _ _).mono ?_;rintro e f ⟨rfl,rfl⟩)
    go_ret;exact⟨by rw [d.out];rfl,iq (ir _ _)⟩
def artA(tv sv:Value)(v:Int × Int × Int):Value:= .agg #[tv,sv,.int .i64 v.1,.int .i64 v.2.1,.int .i64 v.2.2]
theorem oe(a:Art)(tv sv:Value)(w:World)(I:ShpAt w)(x:ProgAt w (.agg #[tv]) a.prog)(y:IntsAt w.heap.size w sv a.sch):
  Calls Tryz.prog 63 #[artA tv sv a.ver] w fun e w'=>e= .returned (.int .i64 (artE a))/\w.grownBy w' none:=by
 obtain⟨p,l,v⟩:=a;obtain⟨b,c,d⟩:=v;simp only at x y ⊢;have L:=ij x;have M:=ij y;obtain⟨n,o,H⟩:=x.form;simp only [Value.agg.injEq,Array.mk.injEq,List.cons.injEq,and_true]at H;subst H;obtain⟨h,i,rfl⟩:=y.form;have N:=ij I;clear x y I;unfold artA;simp only;have z:w.grownBy (w.alloc (.cells #[.slice n p.length o,.slice h l.length i,.int .i64 b,.int .i64 c,.int .i64 d] 56)) none:=iq (ir _ _);have K:Hid ((w.alloc (.cells #[.slice n p.length o,.slice h l.length i,.int .i64 b,.int .i64 c,.int .i64 d] 56)).heap[w.heap.size]?=some (.cells #[.slice n p.length o,.slice h l.length i,.int .i64 b,.int .i64 c,.int .i64 d] 56 (0,0))):=heap_alloc_new _ _;have r:=ij (vh p _ _ (ShpAt.pres N.out (ip z)) (L.out.pres (ip z)));have F:=ij z;clear z;cases hv:vProg p with
 | false=>
  have f:Hid (artE ⟨p,l,(b,c,d)⟩=1):=by unfold Hid artE;rw [if_neg (by rw [hv];simp)]
  rw [hv]at r;clear hv;go_enter Tryz.func63,Tryz.ntmps63
  go_wp2_with (go_at_call 51;refine r.out.mono ?_;rintro e A ⟨rfl,k⟩)
  go_ret;exact⟨by rw [f.out];rfl,il F.out k⟩
 | true=>
  rw [hv]at r;have B:=ij hv;clear hv;go_enter Tryz.func63,Tryz.ntmps63
  go_wp2_with fail
  refine r.out.mono ?_;rintro e A ⟨rfl,k⟩;have q:=ij (il F.out k);have C:A.heap[w.heap.size]?=some (.cells #[.slice n p.length o,.slice h l.length i,.int .i64 b,.int .i64 c,.int .i64 d] 56 (0,0)):=by
   rw [k.block _ (by simp) (by simp)];exact K.out
  have k1:A.cell? ⟨w.heap.size,1,none⟩=some (.slice h l.length i):=by simp [World.cell?,C]
  have s:=ij (vi l (.slice h l.length i) A ((M.out.pres (ip q.out)).mono q.out.size));have E:=ij C;clear k C;cases hv2:validS l with
  | false=>
   have f:Hid (artE ⟨p,l,(b,c,d)⟩=2):=by unfold Hid artE;rw [if_pos B.out,if_neg (by rw [hv2];simp)]
   rw [hv2]at s;clear hv2;go_wp2_with (go_at_call 76;refine s.out.mono ?_;rintro e j ⟨rfl,m⟩)
   go_ret;exact⟨by rw [f.out];rfl,il q.out m⟩
  | true=>
   rw [hv2]at s;have J:=ij hv2;clear hv2;go_wp2_with fail
   refine s.out.mono ?_;rintro e j ⟨rfl,m⟩;have G:=ij (il q.out m);have u:j.heap[w.heap.size]?=some (.cells #[.slice n p.length o,.slice h l.length i,.int .i64 b,.int .i64 c,.int .i64 d] 56 (0,0)):=by
    rw [m.block _ (Array.getElem?_eq_some_iff.1 E.out).1 (by simp)];exact E.out
   have k2:j.cell? ⟨w.heap.size,2,none⟩=some (.int .i64 b):=by simp [World.cell?,u]
   have k3:j.cell? ⟨w.heap.size,3,none⟩=some (.int .i64 c):=by simp [World.cell?,u]
   have k4:j.cell? ⟨w.heap.size,4,none⟩=some (.int .i64 d):=by simp [World.cell?,u]
   have t:=ij (pp (b,c,d) j);clear m u k1;cases hv3:verOk (b,c,d)with
   | false=>
    have f:Hid (artE ⟨p,l,(b,c,d)⟩=2):=by unfold Hid artE;rw [if_pos B.out,if_neg (by rw [hv3];simp)]
    rw [hv3]at t;clear hv3;go_wp2_with (go_at_call 91;refine t.out.mono ?_;rintro e O ⟨rfl,D⟩)
    go_ret;exact⟨by rw [f.out];rfl,il G.out D⟩
   | true=>
    have f:Hid (artE ⟨p,l,(b,c,d)⟩=0):=by unfold Hid artE;rw [if_pos B.out,if_pos ⟨J.out,hv3⟩]
    rw [hv3]at t;clear hv3;go_wp2_with (go_at_call 91;refine t.out.mono ?_;rintro e O ⟨rfl,D⟩)
    go_ret;exact⟨by rw [f.out];rfl,il G.out D⟩
theorem ThrAt.low{L a B:Nat}{w:World}{tv:Value}{p:List (List Ins)}(h:ThrAt L B w tv p)(b:a<=L):ThrAt a B w tv p:=by
 obtain⟨rows,f,i,k,l⟩:=h;refine⟨rows,iK f b,i,fun j hj=>?_,l⟩;obtain⟨rv,c,d,e⟩:=k j hj;exact⟨rv,c,iK d b,e⟩
def decT(l:List Nat)(a:Art)(r3:List Nat):Option Art:=if r3=leB 4 (crcN (l.take (l.length - r3.length)))/\artE a=0 then some a else none
def decV(l:List Nat)(p:List (List Ins))(s:List Int)(r:List Nat):Option Art:=match rdVer r with
 | none=>none
 | some (v,r3)=>decT l ⟨p,s,v⟩ r3
def decS(l:List Nat)(p:List (List Ins))(r:List Nat):Option Art:=match rdSched r with
 | none=>none
 | some (s,r2)=>decV l p s r2
def decP(l:List Nat)(r:List Nat):Option Art:=match rdProg r with
 | none=>none
 | some (p,r1)=>decS l p r1
theorem vH{l a:List Nat}(h:rdLit [82,82,1] l=some ((),a)):decB l=decP l a:=by
 have e:=(oU _ _ _).1 h;have d:l=82::82::1::a:=e;have f:rdArt l=match rdProg a with
  | none=>none
  | some (p,b)=>match rdSched b with
   | none=>none
   | some (s,c)=>match rdVer c with
    | none=>none
    | some (v,r3)=>some (⟨p,s,v⟩,r3):=by rw [d];rfl
 unfold decB;rw [f];unfold decP decS decV decT;cases rdProg a with
 | none=>rfl
 | some x=>
  obtain⟨p,b⟩:=x;simp only;cases rdSched b with
  | none=>rfl
  | some x=>
   obtain⟨s,c⟩:=x;simp only;cases rdVer c with
   | none=>rfl
   | some x=>rfl
theorem rZ{l:List Nat}{k:Nat}(hk:k<=l.length)(a:Art):decT l a (l.drop k)=if rdLit (leB 4 (crcN (l.take k))) (l.drop k)=some ((),[])/\artE a=0 then some a else none:=by
 unfold decT;have e:l.length - (l.drop k).length=k:=by simp;omega
 rw [e];have b:(rdLit (leB 4 (crcN (l.take k))) (l.drop k)=some ((),[]))=(l.drop k=leB 4 (crcN (l.take k))):=by rw [oU,List.append_nil]
 simp only [b]
theorem ShpAt.past{w w':World}{b:Nat}(h:ShpAt w)(hg:w.grownBy w' (some b))(hb:b≠0):ShpAt w':=fun o j h1 h2=>by
 have:=h o j h1 h2;rw [hg.cell_far _ (World.block_lt_of_cell? _ _ this) (by simpa using Ne.symm hb)];exact this
theorem rY{l:List Nat}(h:rdLit [82,82,1] l=none):decB l=none:=by
 cases hd:decB l with
 | none=>rfl
 | some a=>
  obtain⟨r,b,_⟩:=vI hd;obtain⟨c,e⟩:=mt b;have:rdLit [82,82,1] l=some ((),c):=(oU _ _ _).2 e;rw [this]at h;cases h
structure ArS(W w:World)(b:Nat)(s:ByteArray)(k c d L:Nat)(tv sv:Value)(p:List (List Ins))(l:List Int)(v:Int × Int × Int)(us:Array Value):Prop where
 ins:InS W w b s k 56 c d #[tv,sv,.int .i64 v.1,.int .i64 v.2.1,.int .i64 v.2.2] us
 thr:ThrAt L w.heap.size w tv p
 own:w.ownsRow L 3 1 sv l.length (ints l)
 lb:b<L
 lc:c<L
 ld:d<L
theorem ArS.call{W w w':World}{b k k' c d L:Nat}{s:ByteArray}{tv sv:Value}{p:List (List Ins)}{l:List Int}{v:Int × Int × Int}{us:Array Value}(h:ArS W w b s k c d L tv sv p l v us)(h':RdS w w' b s k'):ArS W w' b s k' c d L tv sv p l v us:=
 ⟨h.ins.call h',(h.thr.step h'.base (fun q e=>by simp only [Option.some.injEq]at e;have:=h.lb;omega)).mono h'.base.size,rz h.own h'.base h.lb,h.lb,h.lc,h.ld⟩
theorem iQ{w:World}{base:Nat}{e:TypeId}{size:Nat}{v:Value}{n:Nat}{xs:List Value}{g o:Nat}{u:Value}(h:w.ownsRow base e size v n xs)(hg:g<base):(w.setCell ⟨g,o,none⟩ u).ownsRow base e size v n xs:=
 iC h (iM (w:=w) (b:=g) (o:=o) (v:=u)) (fun k e=>by simp only [Option.some.injEq]at e;omega)
theorem iS{L:Nat}{w:World}{tv:Value}{p:List (List Ins)}{g o:Nat}{u:Value}(h:ThrAt L w.heap.size w tv p)(hg:g<L):ThrAt L (w.setCell ⟨g,o,none⟩ u).heap.size (w.setCell ⟨g,o,none⟩ u) tv p:=
 (h.step (iM (w:=w) (b:=g) (o:=o) (v:=u)) (fun q e=>by simp only [Option.some.injEq]at e;omega)).mono (by simp)
theorem ArS.setS{W w:World}{b k c d L:Nat}{s:ByteArray}{tv sv sv':Value}{p:List (List Ins)}{l l':List Int}{v:Int × Int × Int}{us:Array Value}(h:ArS W w b s k c d L tv sv p l v us)(h':w.ownsRow L 3 1 sv' l'.length (ints l')):ArS W (w.setCell ⟨c,1,none⟩ sv') b s k c d L tv sv' p l' v us:=
 ⟨by simpa using h.ins.set 1 sv',iS h.thr h.lc,iQ h' h.lc,h.lb,h.lc,h.ld⟩
theorem ArS.setV{W w:World}{b k c d L:Nat}{s:ByteArray}{tv sv:Value}{p:List (List Ins)}{l:List Int}{v:Int × Int × Int}{us:Array Value}(h:ArS W w b s k c d L tv sv p l v us)(x:Int × Int × Int):
  ArS W (((w.setCell ⟨c,2,none⟩ (.int .i64 x.1)).setCell ⟨c,3,none⟩ (.int .i64 x.2.1)).setCell ⟨c,4,none⟩ (.int .i64 x.2.2)) b s k c d L tv sv p l x us:=
 ⟨by simpa using ((h.ins.set 2 (.int .i64 x.1)).set 3 (.int .i64 x.2.1)).set 4 (.int .i64 x.2.2),iS (iS (iS h.thr h.lc) h.lc) h.lc,iQ (iQ (iQ h.own h.lc) h.lc) h.lc,h.lb,h.lc,h.ld⟩
theorem ArS.first{W w:World}{b k c d L:Nat}{s:ByteArray}{tv:Value}{p:List (List Ins)}{us:Array Value}(h:InS W w b s k 56 c d #[.slice none 0 0,.slice none 0 0,.int .i64 0,.int .i64 0,.int .i64 0] us)(ht:ThrAt L w.heap.size w tv p)(hb:b<L)(hc:c<L)(hd:d<L):
  ArS W (w.setCell ⟨c,0,none⟩ tv) b s k c d L tv (.slice none 0 0) p [] (0,0,0) us:=
 ⟨by simpa using h.set 0 tv,iS ht hc,⟨rfl,Or.inl ⟨rfl,rfl⟩⟩,hb,hc,hd⟩
theorem ArS.out{W w:World}{b k c d L:Nat}{s:ByteArray}{tv sv:Value}{p:List (List Ins)}{l:List Int}{v:Int × Int × Int}{a:Array Value}(h:ArS W w b s k c d L tv sv p l v a)(e:a.size=5):
  ArS W (((((w.setCell ⟨d,0,none⟩ tv).setCell ⟨d,1,none⟩ sv).setCell ⟨d,2,none⟩ (.int .i64 v.1)).setCell ⟨d,3,none⟩ (.int .i64 v.2.1)).setCell ⟨d,4,none⟩ (.int .i64 v.2.2)) b s k c d L tv sv p l v #[tv,sv,.int .i64 v.1,.int .i64 v.2.1,.int .i64 v.2.2]:=by
 obtain⟨a⟩:=a;match a,e with
 | [a0,a1,a2,a3,a4],_=>
  exact⟨by simpa using ((((h.ins.rset 0 tv).rset 1 sv).rset 2 (.int .i64 v.1)).rset 3 (.int .i64 v.2.1)).rset 4 (.int .i64 v.2.2),
   iS (iS (iS (iS (iS h.thr h.ld) h.ld) h.ld) h.ld) h.ld,iQ (iQ (iQ (iQ (iQ h.own h.ld) h.ld) h.ld) h.ld) h.ld,h.lb,h.lc,h.ld⟩
end
end Go.Proofs.YtklenjmfalljgabGreatDoor
