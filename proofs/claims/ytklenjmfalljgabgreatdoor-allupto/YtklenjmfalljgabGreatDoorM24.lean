/- The texts Rdi Rdj Rdk Rdl Rdm Rdn Rdo Wrt3 Wrt5 Wrt4. -/
import Derived.Test.YtklenjmfalljgabGreatDoorM05
import Derived.Test.YtklenjmfalljgabGreatDoorM22
namespace Go.Proofs.YtklenjmfalljgabGreatDoor
set_option maxRecDepth 100000
set_option maxHeartbeats 8000000
section
open Go.RowKit
attribute [local go_sem] Go.World.cell?_alloc_some
theorem xD(s:ByteArray)(k:Nat)(_h:k<=s.size):byt (s.extract 0 k)=(byt s).take k:=by
 unfold byt;rw [ByteArray.data_extract,Array.toList_extract,List.map_take];simp
theorem zO(W w:World)(b k:Nat)(s:ByteArray)(h:RdS W w b s k)(B:s.size<=9223372036854775806):
  Calls Tryz.prog 140 #[pt b] w (Rd W b s (fun _ _ _=>True) (rdLit (leB 4 (crcN ((byt s).take k))) ((byt s).drop k))):=by
 have G:=ij h;have L:pt b= .pointer (some ⟨b,0,none⟩):=rfl;rw [L];clear h L;have c0:=G.out.c0;have c1:=G.out.c1;have q0:(0:Int)<=(k:Int):=by omega
 have q1:(k:Int)<=s.size:=by have:=G.out.le;omega
 have Q:k<=s.size:=G.out.le;have J:=ij (pP (s.extract 0 k) w.drew (by simp;omega));rw [xD s k Q]at J;have hC:crcN ((byt s).take k)<4294967296:=uM _ (fun x hx=>qJ s x (List.mem_of_mem_take hx));generalize crcN ((byt s).take k)=C at*;go_enter Tryz.func140,Tryz.ntmps140
 go_wp2_with fail
 go_still_tail 9,(by kernel_rfl)
 have N:Hid (RdS W w.drew b s k):=G.out.grown (iy (ir _ _));clear c0 c1 G;go_wp2_with (go_at_call 135;refine J.out.mono ?_;rintro e w2 ⟨rfl,K⟩;have O:=ij (N.out.grown (iH K));clear K)
 go_loopw [14] (fun i w'=>∃ (j c:Nat),j<=4/\i= .int .i64 j/\Hid (RdS W w' b s c)/\Hid (rdLit ((leB 4 C).drop j) ((byt s).drop c)=rdLit (leB 4 C) ((byt s).drop k))) (fun i _=>4 - (intOf i).toNat)
 case atStart=>exact⟨0,k,by omega,rfl,O,ij rfl⟩
 case round=>
  obtain⟨j,c,hj,rfl,z,r⟩:=hrel;obtain⟨A,M⟩:∃ A,A=wr:=⟨_,rfl⟩;rw [<-M]at z ⊢;clear M;have P:j=0\/j=1\/j=2\/j=3\/j=4:=by omega
  rcases P with rfl | rfl | rfl | rfl | rfl
  ·have HX:Hid ((leB 4 C).drop 0=(C % 256)::(leB 4 C).drop 1):=by unfold Hid;simp [leB,Nat.div_div_eq_div_mul]
   have H:IntKind.i64.wrap 0=0:=by decide
   by_cases q:c<s.size
   ·have HB:=ij (jA s c q);have n:=ij (kM W A.drew b c s (z.out.grown (iy (ir _ _))) B q);generalize s[c].toNat=y at*;by_cases o:y=C % 256
    ·have E:((y:Int)==IntKind.u8.wrap ((C:Int)))=true:=by rw [IntKind.wrap_u8'];simp;omega
     have m:Hid (rdLit ((leB 4 C).drop (1)) ((byt s).drop (c+1))=rdLit (leB 4 C) ((byt s).drop k)):=by
      unfold Hid;rw [<-r.out,HB.out,HX.out,rdLit,if_pos o]
     clear o;go_wp2_with fail
     refine iz (fun _=>True) 8 (by kernel_rfl) (by kernel_rfl) trivial ?_;intro v;refine ie 0 ?v0_1 rfl (by kernel_rfl) (fun _ _ _ h=>h) (by rfl) ?y0_1 trivial ?_
     case y0_1=>(intro u a;go_simp;try rfl)
     simp only [Act.put,List.setIfInBounds_toArray];refine ie 2 ?v2_2 rfl (by kernel_rfl) (fun _ _ _ h=>h) (by rfl) ?y2_2 trivial ?_
     case y2_2=>(intro u a;go_simp;try rfl)
     simp only [Act.put];refine ie 3 ?v3_3 rfl (by kernel_rfl) (fun _ _ _ h=>h) (by rfl) ?y3_3 trivial ?_
     case y3_3=>(intro u a;go_simp;try rfl)
     simp only [Act.put];refine ie 4 ?v4_4 rfl (by kernel_rfl) (fun _ _ _ h=>h) (by rfl) ?y4_4 trivial ?_
     case y4_4=>(intro u a;go_simp;try rfl)
     simp only [Act.put];refine ie 5 ?v5_5 rfl (by kernel_rfl) (fun _ _ _ h=>h) (by rfl) ?y5_5 trivial ?_
     case y5_5=>(intro u a;go_simp;try rfl)
     simp only [Act.put];refine ie 6 ?v6_6 rfl (by kernel_rfl) (fun _ _ _ h=>h) (by rfl) ?y6_6 trivial ?_
     case y6_6=>(intro u a;go_simp;try rfl)
     simp only [Act.put];refine iu (i:=1) rfl (by kernel_rfl) (by kernel_rfl) (by rfl) ?_;intro t d;have l:=ij d;clear d;go_simp;refine n.out.mono ?_;rintro e w6 ⟨rfl,f⟩;have p:=ij f;clear f;refine l.out _ _ trivial ?_;clear l;try simp only [Act.put,List.setIfInBounds_toArray]
     refine ie 7 ?v7_7 rfl (by kernel_rfl) (fun _ _ _ h=>h) (by rfl) ?y7_7 trivial ?_
     case y7_7=>(intro u a;go_simp;try rfl)
     simp only [Act.put];refine iF rfl (by kernel_rfl) (by kernel_rfl) (by rfl) ?_;go_simp;refine(jd _).mono ?_;rintro e F ⟨⟨I,rfl⟩,rfl⟩;go_wp2_with fail
     go_roundw
     case rel=>exact⟨1,c+1,by omega,by first | rfl | go_num,p,m⟩
     case measure=>simp [intOf]
    ·have E:((y:Int)==IntKind.u8.wrap ((C:Int)))=false:=by rw [IntKind.wrap_u8'];simp;omega
     have m:Hid (rdLit (leB 4 C) ((byt s).drop k)=none):=by
      unfold Hid;rw [<-r.out,HB.out,HX.out,rdLit,if_neg o]
     clear o;go_wp2_with fail
     refine iz (fun _=>True) 8 (by kernel_rfl) (by kernel_rfl) trivial ?_;intro v;refine ie 0 ?v0_8 rfl (by kernel_rfl) (fun _ _ _ h=>h) (by rfl) ?y0_8 trivial ?_
     case y0_8=>(intro u a;go_simp;try rfl)
     simp only [Act.put,List.setIfInBounds_toArray];refine ie 2 ?v2_9 rfl (by kernel_rfl) (fun _ _ _ h=>h) (by rfl) ?y2_9 trivial ?_
     case y2_9=>(intro u a;go_simp;try rfl)
     simp only [Act.put];refine ie 3 ?v3_10 rfl (by kernel_rfl) (fun _ _ _ h=>h) (by rfl) ?y3_10 trivial ?_
     case y3_10=>(intro u a;go_simp;try rfl)
     simp only [Act.put];refine ie 4 ?v4_11 rfl (by kernel_rfl) (fun _ _ _ h=>h) (by rfl) ?y4_11 trivial ?_
     case y4_11=>(intro u a;go_simp;try rfl)
     simp only [Act.put];refine ie 5 ?v5_12 rfl (by kernel_rfl) (fun _ _ _ h=>h) (by rfl) ?y5_12 trivial ?_
     case y5_12=>(intro u a;go_simp;try rfl)
     simp only [Act.put];refine ie 6 ?v6_13 rfl (by kernel_rfl) (fun _ _ _ h=>h) (by rfl) ?y6_13 trivial ?_
     case y6_13=>(intro u a;go_simp;try rfl)
     simp only [Act.put];refine iu (i:=1) rfl (by kernel_rfl) (by kernel_rfl) (by rfl) ?_;intro t d;have l:=ij d;clear d;go_simp;refine n.out.mono ?_;rintro e w6 ⟨rfl,f⟩;have p:=ij f;clear f;refine l.out _ _ trivial ?_;clear l;try simp only [Act.put,List.setIfInBounds_toArray]
     refine ie 7 ?v7_14 rfl (by kernel_rfl) (fun _ _ _ h=>h) (by rfl) ?y7_14 trivial ?_
     case y7_14=>(intro u a;go_simp;try rfl)
     simp only [Act.put];refine iF rfl (by kernel_rfl) (by kernel_rfl) (by rfl) ?_;go_simp;refine(i7 _).mono ?_;rintro e F ⟨rfl,rfl⟩;exact⟨rfl,Or.inl ⟨m.out,rfl,p.out.base⟩⟩
   ·have D:Hid ((byt s).drop c=[]):=List.drop_eq_nil_iff.2 (by rw [iL];omega);have n:=ij (kL W A.drew b c s (z.out.grown (iy (ir _ _))) B q);have m:Hid (rdLit (leB 4 C) ((byt s).drop k)=none):=by
     unfold Hid;rw [<-r.out,D.out,HX.out,rdLit]
    go_wp2_with fail
    refine iz (fun _=>True) 8 (by kernel_rfl) (by kernel_rfl) trivial ?_;intro v;refine ie 0 ?v0_15 rfl (by kernel_rfl) (fun _ _ _ h=>h) (by rfl) ?y0_15 trivial ?_
    case y0_15=>(intro u a;go_simp;try rfl)
    simp only [Act.put,List.setIfInBounds_toArray];refine ie 2 ?v2_16 rfl (by kernel_rfl) (fun _ _ _ h=>h) (by rfl) ?y2_16 trivial ?_
    case y2_16=>(intro u a;go_simp;try rfl)
    simp only [Act.put];refine ie 3 ?v3_17 rfl (by kernel_rfl) (fun _ _ _ h=>h) (by rfl) ?y3_17 trivial ?_
    case y3_17=>(intro u a;go_simp;try rfl)
    simp only [Act.put];refine ie 4 ?v4_18 rfl (by kernel_rfl) (fun _ _ _ h=>h) (by rfl) ?y4_18 trivial ?_
    case y4_18=>(intro u a;go_simp;try rfl)
    simp only [Act.put];refine ie 5 ?v5_19 rfl (by kernel_rfl) (fun _ _ _ h=>h) (by rfl) ?y5_19 trivial ?_
    case y5_19=>(intro u a;go_simp;try rfl)
    simp only [Act.put];refine ie 6 ?v6_20 rfl (by kernel_rfl) (fun _ _ _ h=>h) (by rfl) ?y6_20 trivial ?_
    case y6_20=>(intro u a;go_simp;try rfl)
    simp only [Act.put];refine iu (i:=1) rfl (by kernel_rfl) (by kernel_rfl) (by rfl) ?_;intro t d;have l:=ij d;clear d;go_simp;refine n.out.mono ?_;rintro e w6 ⟨rfl,f⟩;exact⟨rfl,Or.inl ⟨m.out,rfl,f⟩⟩
  ·have HX:Hid ((leB 4 C).drop 1=(C / 256 % 256)::(leB 4 C).drop 2):=by unfold Hid;simp [leB,Nat.div_div_eq_div_mul]
   have H:IntKind.i64.wrap 8=8:=by decide
   by_cases q:c<s.size
   ·have HB:=ij (jA s c q);have n:=ij (kM W A.drew b c s (z.out.grown (iy (ir _ _))) B q);generalize s[c].toNat=y at*;by_cases o:y=C / 256 % 256
    ·have E:((y:Int)==IntKind.u8.wrap ((C:Int) / 256))=true:=by rw [IntKind.wrap_u8'];simp;omega
     have m:Hid (rdLit ((leB 4 C).drop (2)) ((byt s).drop (c+1))=rdLit (leB 4 C) ((byt s).drop k)):=by
      unfold Hid;rw [<-r.out,HB.out,HX.out,rdLit,if_pos o]
     clear o;go_wp2_with fail
     refine iz (fun _=>True) 8 (by kernel_rfl) (by kernel_rfl) trivial ?_;intro v;refine ie 0 ?v0_21 rfl (by kernel_rfl) (fun _ _ _ h=>h) (by rfl) ?y0_21 trivial ?_
     case y0_21=>(intro u a;go_simp;try rfl)
     simp only [Act.put,List.setIfInBounds_toArray];refine ie 2 ?v2_22 rfl (by kernel_rfl) (fun _ _ _ h=>h) (by rfl) ?y2_22 trivial ?_
     case y2_22=>(intro u a;go_simp;try rfl)
     simp only [Act.put];refine ie 3 ?v3_23 rfl (by kernel_rfl) (fun _ _ _ h=>h) (by rfl) ?y3_23 trivial ?_
     case y3_23=>(intro u a;go_simp;try rfl)
     simp only [Act.put];refine ie 4 ?v4_24 rfl (by kernel_rfl) (fun _ _ _ h=>h) (by rfl) ?y4_24 trivial ?_
     case y4_24=>(intro u a;go_simp;try rfl)
     simp only [Act.put];refine ie 5 ?v5_25 rfl (by kernel_rfl) (fun _ _ _ h=>h) (by rfl) ?y5_25 trivial ?_
     case y5_25=>(intro u a;go_simp;try rfl)
     simp only [Act.put];refine ie 6 ?v6_26 rfl (by kernel_rfl) (fun _ _ _ h=>h) (by rfl) ?y6_26 trivial ?_
     case y6_26=>(intro u a;go_simp;try rfl)
     simp only [Act.put];refine iu (i:=1) rfl (by kernel_rfl) (by kernel_rfl) (by rfl) ?_;intro t d;have l:=ij d;clear d;go_simp;refine n.out.mono ?_;rintro e w6 ⟨rfl,f⟩;have p:=ij f;clear f;refine l.out _ _ trivial ?_;clear l;try simp only [Act.put,List.setIfInBounds_toArray]
     refine ie 7 ?v7_27 rfl (by kernel_rfl) (fun _ _ _ h=>h) (by rfl) ?y7_27 trivial ?_
     case y7_27=>(intro u a;go_simp;try rfl)
     simp only [Act.put];refine iF rfl (by kernel_rfl) (by kernel_rfl) (by rfl) ?_;go_simp;refine(jd _).mono ?_;rintro e F ⟨⟨I,rfl⟩,rfl⟩;go_wp2_with fail
     go_roundw
     case rel=>exact⟨2,c+1,by omega,by first | rfl | go_num,p,m⟩
     case measure=>simp [intOf]
    ·have E:((y:Int)==IntKind.u8.wrap ((C:Int) / 256))=false:=by rw [IntKind.wrap_u8'];simp;omega
     have m:Hid (rdLit (leB 4 C) ((byt s).drop k)=none):=by
      unfold Hid;rw [<-r.out,HB.out,HX.out,rdLit,if_neg o]
     clear o;go_wp2_with fail
     refine iz (fun _=>True) 8 (by kernel_rfl) (by kernel_rfl) trivial ?_;intro v;refine ie 0 ?v0_28 rfl (by kernel_rfl) (fun _ _ _ h=>h) (by rfl) ?y0_28 trivial ?_
     case y0_28=>(intro u a;go_simp;try rfl)
     simp only [Act.put,List.setIfInBounds_toArray];refine ie 2 ?v2_29 rfl (by kernel_rfl) (fun _ _ _ h=>h) (by rfl) ?y2_29 trivial ?_
     case y2_29=>(intro u a;go_simp;try rfl)
     simp only [Act.put];refine ie 3 ?v3_30 rfl (by kernel_rfl) (fun _ _ _ h=>h) (by rfl) ?y3_30 trivial ?_
     case y3_30=>(intro u a;go_simp;try rfl)
     simp only [Act.put];refine ie 4 ?v4_31 rfl (by kernel_rfl) (fun _ _ _ h=>h) (by rfl) ?y4_31 trivial ?_
     case y4_31=>(intro u a;go_simp;try rfl)
     simp only [Act.put];refine ie 5 ?v5_32 rfl (by kernel_rfl) (fun _ _ _ h=>h) (by rfl) ?y5_32 trivial ?_
     case y5_32=>(intro u a;go_simp;try rfl)
     simp only [Act.put];refine ie 6 ?v6_33 rfl (by kernel_rfl) (fun _ _ _ h=>h) (by rfl) ?y6_33 trivial ?_
     case y6_33=>(intro u a;go_simp;try rfl)
     simp only [Act.put];refine iu (i:=1) rfl (by kernel_rfl) (by kernel_rfl) (by rfl) ?_;intro t d;have l:=ij d;clear d;go_simp;refine n.out.mono ?_;rintro e w6 ⟨rfl,f⟩;have p:=ij f;clear f;refine l.out _ _ trivial ?_;clear l;try simp only [Act.put,List.setIfInBounds_toArray]
     refine ie 7 ?v7_34 rfl (by kernel_rfl) (fun _ _ _ h=>h) (by rfl) ?y7_34 trivial ?_
     case y7_34=>(intro u a;go_simp;try rfl)
     simp only [Act.put];refine iF rfl (by kernel_rfl) (by kernel_rfl) (by rfl) ?_;go_simp;refine(i7 _).mono ?_;rintro e F ⟨rfl,rfl⟩;exact⟨rfl,Or.inl ⟨m.out,rfl,p.out.base⟩⟩
   ·have D:Hid ((byt s).drop c=[]):=List.drop_eq_nil_iff.2 (by rw [iL];omega);have n:=ij (kL W A.drew b c s (z.out.grown (iy (ir _ _))) B q);have m:Hid (rdLit (leB 4 C) ((byt s).drop k)=none):=by
     unfold Hid;rw [<-r.out,D.out,HX.out,rdLit]
    go_wp2_with fail
    refine iz (fun _=>True) 8 (by kernel_rfl) (by kernel_rfl) trivial ?_;intro v;refine ie 0 ?v0_35 rfl (by kernel_rfl) (fun _ _ _ h=>h) (by rfl) ?y0_35 trivial ?_
    case y0_35=>(intro u a;go_simp;try rfl)
    simp only [Act.put,List.setIfInBounds_toArray];refine ie 2 ?v2_36 rfl (by kernel_rfl) (fun _ _ _ h=>h) (by rfl) ?y2_36 trivial ?_
    case y2_36=>(intro u a;go_simp;try rfl)
    simp only [Act.put];refine ie 3 ?v3_37 rfl (by kernel_rfl) (fun _ _ _ h=>h) (by rfl) ?y3_37 trivial ?_
    case y3_37=>(intro u a;go_simp;try rfl)
    simp only [Act.put];refine ie 4 ?v4_38 rfl (by kernel_rfl) (fun _ _ _ h=>h) (by rfl) ?y4_38 trivial ?_
    case y4_38=>(intro u a;go_simp;try rfl)
    simp only [Act.put];refine ie 5 ?v5_39 rfl (by kernel_rfl) (fun _ _ _ h=>h) (by rfl) ?y5_39 trivial ?_
    case y5_39=>(intro u a;go_simp;try rfl)
    simp only [Act.put];refine ie 6 ?v6_40 rfl (by kernel_rfl) (fun _ _ _ h=>h) (by rfl) ?y6_40 trivial ?_
    case y6_40=>(intro u a;go_simp;try rfl)
    simp only [Act.put];refine iu (i:=1) rfl (by kernel_rfl) (by kernel_rfl) (by rfl) ?_;intro t d;have l:=ij d;clear d;go_simp;refine n.out.mono ?_;rintro e w6 ⟨rfl,f⟩;exact⟨rfl,Or.inl ⟨m.out,rfl,f⟩⟩
  ·have HX:Hid ((leB 4 C).drop 2=(C / 65536 % 256)::(leB 4 C).drop 3):=by unfold Hid;simp [leB,Nat.div_div_eq_div_mul]
   have H:IntKind.i64.wrap 16=16:=by decide
   by_cases q:c<s.size
   ·have HB:=ij (jA s c q);have n:=ij (kM W A.drew b c s (z.out.grown (iy (ir _ _))) B q);generalize s[c].toNat=y at*;by_cases o:y=C / 65536 % 256
    ·have E:((y:Int)==IntKind.u8.wrap ((C:Int) / 65536))=true:=by rw [IntKind.wrap_u8'];simp;omega
     have m:Hid (rdLit ((leB 4 C).drop (3)) ((byt s).drop (c+1))=rdLit (leB 4 C) ((byt s).drop k)):=by
      unfold Hid;rw [<-r.out,HB.out,HX.out,rdLit,if_pos o]
     clear o;go_wp2_with fail
     refine iz (fun _=>True) 8 (by kernel_rfl) (by kernel_rfl) trivial ?_;intro v;refine ie 0 ?v0_41 rfl (by kernel_rfl) (fun _ _ _ h=>h) (by rfl) ?y0_41 trivial ?_
     case y0_41=>(intro u a;go_simp;try rfl)
     simp only [Act.put,List.setIfInBounds_toArray];refine ie 2 ?v2_42 rfl (by kernel_rfl) (fun _ _ _ h=>h) (by rfl) ?y2_42 trivial ?_
     case y2_42=>(intro u a;go_simp;try rfl)
     simp only [Act.put];refine ie 3 ?v3_43 rfl (by kernel_rfl) (fun _ _ _ h=>h) (by rfl) ?y3_43 trivial ?_
     case y3_43=>(intro u a;go_simp;try rfl)
     simp only [Act.put];refine ie 4 ?v4_44 rfl (by kernel_rfl) (fun _ _ _ h=>h) (by rfl) ?y4_44 trivial ?_
     case y4_44=>(intro u a;go_simp;try rfl)
     simp only [Act.put];refine ie 5 ?v5_45 rfl (by kernel_rfl) (fun _ _ _ h=>h) (by rfl) ?y5_45 trivial ?_
     case y5_45=>(intro u a;go_simp;try rfl)
     simp only [Act.put];refine ie 6 ?v6_46 rfl (by kernel_rfl) (fun _ _ _ h=>h) (by rfl) ?y6_46 trivial ?_
     case y6_46=>(intro u a;go_simp;try rfl)
     simp only [Act.put];refine iu (i:=1) rfl (by kernel_rfl) (by kernel_rfl) (by rfl) ?_;intro t d;have l:=ij d;clear d;go_simp;refine n.out.mono ?_;rintro e w6 ⟨rfl,f⟩;have p:=ij f;clear f;refine l.out _ _ trivial ?_;clear l;try simp only [Act.put,List.setIfInBounds_toArray]
     refine ie 7 ?v7_47 rfl (by kernel_rfl) (fun _ _ _ h=>h) (by rfl) ?y7_47 trivial ?_
     case y7_47=>(intro u a;go_simp;try rfl)
     simp only [Act.put];refine iF rfl (by kernel_rfl) (by kernel_rfl) (by rfl) ?_;go_simp;refine(jd _).mono ?_;rintro e F ⟨⟨I,rfl⟩,rfl⟩;go_wp2_with fail
     go_roundw
     case rel=>exact⟨3,c+1,by omega,by first | rfl | go_num,p,m⟩
     case measure=>simp [intOf]
    ·have E:((y:Int)==IntKind.u8.wrap ((C:Int) / 65536))=false:=by rw [IntKind.wrap_u8'];simp;omega
     have m:Hid (rdLit (leB 4 C) ((byt s).drop k)=none):=by
      unfold Hid;rw [<-r.out,HB.out,HX.out,rdLit,if_neg o]
     clear o;go_wp2_with fail
     refine iz (fun _=>True) 8 (by kernel_rfl) (by kernel_rfl) trivial ?_;intro v;refine ie 0 ?v0_48 rfl (by kernel_rfl) (fun _ _ _ h=>h) (by rfl) ?y0_48 trivial ?_
     case y0_48=>(intro u a;go_simp;try rfl)
     simp only [Act.put,List.setIfInBounds_toArray];refine ie 2 ?v2_49 rfl (by kernel_rfl) (fun _ _ _ h=>h) (by rfl) ?y2_49 trivial ?_
     case y2_49=>(intro u a;go_simp;try rfl)
     simp only [Act.put];refine ie 3 ?v3_50 rfl (by kernel_rfl) (fun _ _ _ h=>h) (by rfl) ?y3_50 trivial ?_
     case y3_50=>(intro u a;go_simp;try rfl)
     simp only [Act.put];refine ie 4 ?v4_51 rfl (by kernel_rfl) (fun _ _ _ h=>h) (by rfl) ?y4_51 trivial ?_
     case y4_51=>(intro u a;go_simp;try rfl)
     simp only [Act.put];refine ie 5 ?v5_52 rfl (by kernel_rfl) (fun _ _ _ h=>h) (by rfl) ?y5_52 trivial ?_
     case y5_52=>(intro u a;go_simp;try rfl)
     simp only [Act.put];refine ie 6 ?v6_53 rfl (by kernel_rfl) (fun _ _ _ h=>h) (by rfl) ?y6_53 trivial ?_
     case y6_53=>(intro u a;go_simp;try rfl)
     simp only [Act.put];refine iu (i:=1) rfl (by kernel_rfl) (by kernel_rfl) (by rfl) ?_;intro t d;have l:=ij d;clear d;go_simp;refine n.out.mono ?_;rintro e w6 ⟨rfl,f⟩;have p:=ij f;clear f;refine l.out _ _ trivial ?_;clear l;try simp only [Act.put,List.setIfInBounds_toArray]
     refine ie 7 ?v7_54 rfl (by kernel_rfl) (fun _ _ _ h=>h) (by rfl) ?y7_54 trivial ?_
     case y7_54=>(intro u a;go_simp;try rfl)
     simp only [Act.put];refine iF rfl (by kernel_rfl) (by kernel_rfl) (by rfl) ?_;go_simp;refine(i7 _).mono ?_;rintro e F ⟨rfl,rfl⟩;exact⟨rfl,Or.inl ⟨m.out,rfl,p.out.base⟩⟩
   ·have D:Hid ((byt s).drop c=[]):=List.drop_eq_nil_iff.2 (by rw [iL];omega);have n:=ij (kL W A.drew b c s (z.out.grown (iy (ir _ _))) B q);have m:Hid (rdLit (leB 4 C) ((byt s).drop k)=none):=by
     unfold Hid;rw [<-r.out,D.out,HX.out,rdLit]
    go_wp2_with fail
    refine iz (fun _=>True) 8 (by kernel_rfl) (by kernel_rfl) trivial ?_;intro v;refine ie 0 ?v0_55 rfl (by kernel_rfl) (fun _ _ _ h=>h) (by rfl) ?y0_55 trivial ?_
    case y0_55=>(intro u a;go_simp;try rfl)
    simp only [Act.put,List.setIfInBounds_toArray];refine ie 2 ?v2_56 rfl (by kernel_rfl) (fun _ _ _ h=>h) (by rfl) ?y2_56 trivial ?_
    case y2_56=>(intro u a;go_simp;try rfl)
    simp only [Act.put];refine ie 3 ?v3_57 rfl (by kernel_rfl) (fun _ _ _ h=>h) (by rfl) ?y3_57 trivial ?_
    case y3_57=>(intro u a;go_simp;try rfl)
    simp only [Act.put];refine ie 4 ?v4_58 rfl (by kernel_rfl) (fun _ _ _ h=>h) (by rfl) ?y4_58 trivial ?_
    case y4_58=>(intro u a;go_simp;try rfl)
    simp only [Act.put];refine ie 5 ?v5_59 rfl (by kernel_rfl) (fun _ _ _ h=>h) (by rfl) ?y5_59 trivial ?_
    case y5_59=>(intro u a;go_simp;try rfl)
    simp only [Act.put];refine ie 6 ?v6_60 rfl (by kernel_rfl) (fun _ _ _ h=>h) (by rfl) ?y6_60 trivial ?_
    case y6_60=>(intro u a;go_simp;try rfl)
    simp only [Act.put];refine iu (i:=1) rfl (by kernel_rfl) (by kernel_rfl) (by rfl) ?_;intro t d;have l:=ij d;clear d;go_simp;refine n.out.mono ?_;rintro e w6 ⟨rfl,f⟩;exact⟨rfl,Or.inl ⟨m.out,rfl,f⟩⟩
  ·have HX:Hid ((leB 4 C).drop 3=(C / 16777216 % 256)::(leB 4 C).drop 4):=by unfold Hid;simp [leB,Nat.div_div_eq_div_mul]
   have H:IntKind.i64.wrap 24=24:=by decide
   by_cases q:c<s.size
   ·have HB:=ij (jA s c q);have n:=ij (kM W A.drew b c s (z.out.grown (iy (ir _ _))) B q);generalize s[c].toNat=y at*;by_cases o:y=C / 16777216 % 256
    ·have E:((y:Int)==IntKind.u8.wrap ((C:Int) / 16777216))=true:=by rw [IntKind.wrap_u8'];simp;omega
     have m:Hid (rdLit ((leB 4 C).drop (4)) ((byt s).drop (c+1))=rdLit (leB 4 C) ((byt s).drop k)):=by
      unfold Hid;rw [<-r.out,HB.out,HX.out,rdLit,if_pos o]
     clear o;go_wp2_with fail
     refine iz (fun _=>True) 8 (by kernel_rfl) (by kernel_rfl) trivial ?_;intro v;refine ie 0 ?v0_61 rfl (by kernel_rfl) (fun _ _ _ h=>h) (by rfl) ?y0_61 trivial ?_
     case y0_61=>(intro u a;go_simp;try rfl)
     simp only [Act.put,List.setIfInBounds_toArray];refine ie 2 ?v2_62 rfl (by kernel_rfl) (fun _ _ _ h=>h) (by rfl) ?y2_62 trivial ?_
     case y2_62=>(intro u a;go_simp;try rfl)
     simp only [Act.put];refine ie 3 ?v3_63 rfl (by kernel_rfl) (fun _ _ _ h=>h) (by rfl) ?y3_63 trivial ?_
     case y3_63=>(intro u a;go_simp;try rfl)
     simp only [Act.put];refine ie 4 ?v4_64 rfl (by kernel_rfl) (fun _ _ _ h=>h) (by rfl) ?y4_64 trivial ?_
     case y4_64=>(intro u a;go_simp;try rfl)
     simp only [Act.put];refine ie 5 ?v5_65 rfl (by kernel_rfl) (fun _ _ _ h=>h) (by rfl) ?y5_65 trivial ?_
     case y5_65=>(intro u a;go_simp;try rfl)
     simp only [Act.put];refine ie 6 ?v6_66 rfl (by kernel_rfl) (fun _ _ _ h=>h) (by rfl) ?y6_66 trivial ?_
     case y6_66=>(intro u a;go_simp;try rfl)
     simp only [Act.put];refine iu (i:=1) rfl (by kernel_rfl) (by kernel_rfl) (by rfl) ?_;intro t d;have l:=ij d;clear d;go_simp;refine n.out.mono ?_;rintro e w6 ⟨rfl,f⟩;have p:=ij f;clear f;refine l.out _ _ trivial ?_;clear l;try simp only [Act.put,List.setIfInBounds_toArray]
     refine ie 7 ?v7_67 rfl (by kernel_rfl) (fun _ _ _ h=>h) (by rfl) ?y7_67 trivial ?_
     case y7_67=>(intro u a;go_simp;try rfl)
     simp only [Act.put];refine iF rfl (by kernel_rfl) (by kernel_rfl) (by rfl) ?_;go_simp;refine(jd _).mono ?_;rintro e F ⟨⟨I,rfl⟩,rfl⟩;go_wp2_with fail
     go_roundw
     case rel=>exact⟨4,c+1,by omega,by first | rfl | go_num,p,m⟩
     case measure=>simp [intOf]
    ·have E:((y:Int)==IntKind.u8.wrap ((C:Int) / 16777216))=false:=by rw [IntKind.wrap_u8'];simp;omega
     have m:Hid (rdLit (leB 4 C) ((byt s).drop k)=none):=by
      unfold Hid;rw [<-r.out,HB.out,HX.out,rdLit,if_neg o]
     clear o;go_wp2_with fail
     refine iz (fun _=>True) 8 (by kernel_rfl) (by kernel_rfl) trivial ?_;intro v;refine ie 0 ?v0_68 rfl (by kernel_rfl) (fun _ _ _ h=>h) (by rfl) ?y0_68 trivial ?_
     case y0_68=>(intro u a;go_simp;try rfl)
     simp only [Act.put,List.setIfInBounds_toArray];refine ie 2 ?v2_69 rfl (by kernel_rfl) (fun _ _ _ h=>h) (by rfl) ?y2_69 trivial ?_
     case y2_69=>(intro u a;go_simp;try rfl)
     simp only [Act.put];refine ie 3 ?v3_70 rfl (by kernel_rfl) (fun _ _ _ h=>h) (by rfl) ?y3_70 trivial ?_
     case y3_70=>(intro u a;go_simp;try rfl)
     simp only [Act.put];refine ie 4 ?v4_71 rfl (by kernel_rfl) (fun _ _ _ h=>h) (by rfl) ?y4_71 trivial ?_
     case y4_71=>(intro u a;go_simp;try rfl)
     simp only [Act.put];refine ie 5 ?v5_72 rfl (by kernel_rfl) (fun _ _ _ h=>h) (by rfl) ?y5_72 trivial ?_
     case y5_72=>(intro u a;go_simp;try rfl)
     simp only [Act.put];refine ie 6 ?v6_73 rfl (by kernel_rfl) (fun _ _ _ h=>h) (by rfl) ?y6_73 trivial ?_
     case y6_73=>(intro u a;go_simp;try rfl)
     simp only [Act.put];refine iu (i:=1) rfl (by kernel_rfl) (by kernel_rfl) (by rfl) ?_;intro t d;have l:=ij d;clear d;go_simp;refine n.out.mono ?_;rintro e w6 ⟨rfl,f⟩;have p:=ij f;clear f;refine l.out _ _ trivial ?_;clear l;try simp only [Act.put,List.setIfInBounds_toArray]
     refine ie 7 ?v7_74 rfl (by kernel_rfl) (fun _ _ _ h=>h) (by rfl) ?y7_74 trivial ?_
     case y7_74=>(intro u a;go_simp;try rfl)
     simp only [Act.put];refine iF rfl (by kernel_rfl) (by kernel_rfl) (by rfl) ?_;go_simp;refine(i7 _).mono ?_;rintro e F ⟨rfl,rfl⟩;exact⟨rfl,Or.inl ⟨m.out,rfl,p.out.base⟩⟩
   ·have D:Hid ((byt s).drop c=[]):=List.drop_eq_nil_iff.2 (by rw [iL];omega);have n:=ij (kL W A.drew b c s (z.out.grown (iy (ir _ _))) B q);have m:Hid (rdLit (leB 4 C) ((byt s).drop k)=none):=by
     unfold Hid;rw [<-r.out,D.out,HX.out,rdLit]
    go_wp2_with fail
    refine iz (fun _=>True) 8 (by kernel_rfl) (by kernel_rfl) trivial ?_;intro v;refine ie 0 ?v0_75 rfl (by kernel_rfl) (fun _ _ _ h=>h) (by rfl) ?y0_75 trivial ?_
    case y0_75=>(intro u a;go_simp;try rfl)
    simp only [Act.put,List.setIfInBounds_toArray];refine ie 2 ?v2_76 rfl (by kernel_rfl) (fun _ _ _ h=>h) (by rfl) ?y2_76 trivial ?_
    case y2_76=>(intro u a;go_simp;try rfl)
    simp only [Act.put];refine ie 3 ?v3_77 rfl (by kernel_rfl) (fun _ _ _ h=>h) (by rfl) ?y3_77 trivial ?_
    case y3_77=>(intro u a;go_simp;try rfl)
    simp only [Act.put];refine ie 4 ?v4_78 rfl (by kernel_rfl) (fun _ _ _ h=>h) (by rfl) ?y4_78 trivial ?_
    case y4_78=>(intro u a;go_simp;try rfl)
    simp only [Act.put];refine ie 5 ?v5_79 rfl (by kernel_rfl) (fun _ _ _ h=>h) (by rfl) ?y5_79 trivial ?_
    case y5_79=>(intro u a;go_simp;try rfl)
    simp only [Act.put];refine ie 6 ?v6_80 rfl (by kernel_rfl) (fun _ _ _ h=>h) (by rfl) ?y6_80 trivial ?_
    case y6_80=>(intro u a;go_simp;try rfl)
    simp only [Act.put];refine iu (i:=1) rfl (by kernel_rfl) (by kernel_rfl) (by rfl) ?_;intro t d;have l:=ij d;clear d;go_simp;refine n.out.mono ?_;rintro e w6 ⟨rfl,f⟩;exact⟨rfl,Or.inl ⟨m.out,rfl,f⟩⟩
  ·have m:Hid (rdLit (leB 4 C) ((byt s).drop k)=some ((),(byt s).drop c)):=by
    unfold Hid;rw [<-r.out];rfl
   go_wp2_with fail
   go_end0
   exact Or.inr ⟨(),_,_,c,m.out,rfl,trivial,z.out,rfl⟩
def inB(x lo hi:Int):Bool:=decide (lo<=x) && decide (x<=hi)
theorem mZ(x b a:Int)(w:World):Calls Tryz.prog 132 #[.int .i64 x,.int .i64 b,.int .i64 a] w fun e w'=>e= .returned (.bool (inB x b a))/\w'=w:=by
 by_cases c:b<=x
 ·by_cases d:x<=a
  ·have HB:Hid (inB x b a=true):=by unfold Hid inB;simp [c,d]
   go_enter Tryz.func132,Tryz.ntmps132
   go_wp2_with fail
   go_ret;exact⟨by first | rfl | (rw [HB.out];rfl),rfl⟩
  ·have HB:Hid (inB x b a=false):=by unfold Hid inB;simp [d]
   have f:decide (x<=a)=false:=by simp;omega
   go_enter Tryz.func132,Tryz.ntmps132
   go_wp2_with fail
   go_ret;exact⟨by first | rfl | (rw [HB.out];rfl),rfl⟩
 ·have HB:Hid (inB x b a=false):=by unfold Hid inB;simp [c]
  have f:decide (b<=x)=false:=by simp;omega
  go_enter Tryz.func132,Tryz.ntmps132
  go_wp2_with fail
  go_ret;exact⟨by first | rfl | (rw [HB.out];rfl),rfl⟩
theorem mY(a b c:Int):verOk (a,b,c)=(inB a 1 5 && inB b 0 3 && inB c 0 500):=rfl
theorem pp(v:Int × Int × Int)(w:World):Calls Tryz.prog 91 #[verA v] w fun e w'=>e= .returned (.bool (verOk v))/\w.grownBy w' none:=by
 obtain⟨a,b,c⟩:=v;unfold verA;cases h1:inB a 1 5 with
 | false=>
  have d:Hid (verOk (a,b,c)=false):=by unfold Hid;rw [mY];simp only [h1];rfl
  go_enter Tryz.func91,Tryz.ntmps91
  go_wp2_with (go_at_call 132;refine(mZ _ _ _ _).mono ?_;rintro e f ⟨rfl,rfl⟩)
  go_ret;exact⟨by rw [d.out];rfl,iq (ir _ _)⟩
 | true=>
  cases h2:inB b 0 3 with
  | false=>
   have d:Hid (verOk (a,b,c)=false):=by unfold Hid;rw [mY];simp only [h1,h2];rfl
   go_enter Tryz.func91,Tryz.ntmps91
   go_wp2_with (go_at_call 132;refine(mZ _ _ _ _).mono ?_;rintro e f ⟨rfl,rfl⟩)
   go_ret;exact⟨by rw [d.out];rfl,iq (ir _ _)⟩
  | true=>
   cases h3:inB c 0 500 with
   | false=>
    have d:Hid (verOk (a,b,c)=false):=by unfold Hid;rw [mY];simp only [h1,h2,h3];rfl
    go_enter Tryz.func91,Tryz.ntmps91
    go_wp2_with (go_at_call 132;refine(mZ _ _ _ _).mono ?_;rintro e f ⟨rfl,rfl⟩)
    go_ret;exact⟨by rw [d.out];rfl,iq (ir _ _)⟩
   | true=>
    have d:Hid (verOk (a,b,c)=true):=by unfold Hid;rw [mY];simp only [h1,h2,h3];rfl
    go_enter Tryz.func91,Tryz.ntmps91
    go_wp2_with (go_at_call 132;refine(mZ _ _ _ _).mono ?_;rintro e f ⟨rfl,rfl⟩)
    go_ret;exact⟨by rw [d.out];rfl,iq (ir _ _)⟩
def artA(tv sv:Value)(v:Int × Int × Int):Value:= .agg #[tv,sv,.int .i64 v.1,.int .i64 v.2.1,.int .i64 v.2.2]
theorem oe(a:Art)(tv sv:Value)(w:World)(I:ShpAt w)(x:ProgAt w (.agg #[tv]) a.prog)(y:IntsAt w.heap.size w sv a.sch):
  Calls Tryz.prog 63 #[artA tv sv a.ver] w fun e w'=>e= .returned (.int .i64 (artE a))/\w.grownBy w' none:=by
 obtain⟨p,l,v⟩:=a;obtain⟨b,c,d⟩:=v;simp only at x y ⊢;have L:=ij x;have M:=ij y;obtain⟨n,o,H⟩:=x.form;simp only [Value.agg.injEq,Array.mk.injEq,List.cons.injEq,and_true]at H;subst H;obtain⟨h,i,rfl⟩:=y.form;have N:=ij I;clear x y I;unfold artA;simp only;have z:w.grownBy (w.alloc (.cells #[.slice n p.length o,.slice h l.length i,.int .i64 b,.int .i64 c,.int .i64 d] 56)) none:=iq (ir _ _);have K:Hid ((w.alloc (.cells #[.slice n p.length o,.slice h l.length i,.int .i64 b,.int .i64 c,.int .i64 d] 56)).heap[w.heap.size]?=some (.cells #[.slice n p.length o,.slice h l.length i,.int .i64 b,.int .i64 c,.int .i64 d] 56 (0,0))):=heap_alloc_new _ _;have r:=ij (vh p _ _ (ShpAt.pres N.out (ip z)) (L.out.pres (ip z)));have F:=ij z;clear z;cases hv:vProg p with
 | false=>
  have f:Hid (artE ⟨p,l,(b,c,d)⟩=1):=by unfold Hid artE;rw [if_neg (by rw [hv];simp)]
  rw [hv]at r;clear hv;go_enter Tryz.func63,Tryz.ntmps63
  go_wp2_with (go_at_call 51;refine r.out.mono ?_;rintro e A ⟨rfl,k⟩)
  go_ret;exact⟨by rw [f.out];rfl,il F.out k⟩
 | true=>
  rw [hv]at r;have B:=ij hv;clear hv;go_enter Tryz.func63,Tryz.ntmps63
  go_wp2_with fail
  refine r.out.mono ?_;rintro e A ⟨rfl,k⟩;have q:=ij (il F.out k);have C:A.heap[w.heap.size]?=some (.cells #[.slice n p.length o,.slice h l.length i,.int .i64 b,.int .i64 c,.int .i64 d] 56 (0,0)):=by
   rw [k.block _ (by simp) (by simp)];exact K.out
  have k1:A.cell? ⟨w.heap.size,1,none⟩=some (.slice h l.length i):=by simp [World.cell?,C]
  have s:=ij (vi l (.slice h l.length i) A ((M.out.pres (ip q.out)).mono q.out.size));have E:=ij C;clear k C;cases hv2:validS l with
  | false=>
   have f:Hid (artE ⟨p,l,(b,c,d)⟩=2):=by unfold Hid artE;rw [if_pos B.out,if_neg (by rw [hv2];simp)]
   rw [hv2]at s;clear hv2;go_wp2_with (go_at_call 76;refine s.out.mono ?_;rintro e j ⟨rfl,m⟩)
   go_ret;exact⟨by rw [f.out];rfl,il q.out m⟩
  | true=>
   rw [hv2]at s;have J:=ij hv2;clear hv2;go_wp2_with fail
   refine s.out.mono ?_;rintro e j ⟨rfl,m⟩;have G:=ij (il q.out m);have u:j.heap[w.heap.size]?=some (.cells #[.slice n p.length o,.slice h l.length i,.int .i64 b,.int .i64 c,.int .i64 d] 56 (0,0)):=by
    rw [m.block _ (Array.getElem?_eq_some_iff.1 E.out).1 (by simp)];exact E.out
   have k2:j.cell? ⟨w.heap.size,2,none⟩=some (.int .i64 b):=by simp [World.cell?,u]
   have k3:j.cell? ⟨w.heap.size,3,none⟩=some (.int .i64 c):=by simp [World.cell?,u]
   have k4:j.cell? ⟨w.heap.size,4,none⟩=some (.int .i64 d):=by simp [World.cell?,u]
   have t:=ij (pp (b,c,d) j);clear m u k1;cases hv3:verOk (b,c,d)with
   | false=>
    have f:Hid (artE ⟨p,l,(b,c,d)⟩=2):=by unfold Hid artE;rw [if_pos B.out,if_neg (by rw [hv3];simp)]
    rw [hv3]at t;clear hv3;go_wp2_with (go_at_call 91;refine t.out.mono ?_;rintro e O ⟨rfl,D⟩)
    go_ret;exact⟨by rw [f.out];rfl,il G.out D⟩
   | true=>
    have f:Hid (artE ⟨p,l,(b,c,d)⟩=0):=by unfold Hid artE;rw [if_pos B.out,if_pos ⟨J.out,hv3⟩]
    rw [hv3]at t;clear hv3;go_wp2_with (go_at_call 91;refine t.out.mono ?_;rintro e O ⟨rfl,D⟩)
    go_ret;exact⟨by rw [f.out];rfl,il G.out D⟩
theorem ThrAt.low{L a B:Nat}{w:World}{tv:Value}{p:List (List Ins)}(h:ThrAt L B w tv p)(b:a<=L):ThrAt a B w tv p:=by
 obtain⟨rows,f,i,k,l⟩:=h;refine⟨rows,iK f b,i,fun j hj=>?_,l⟩;obtain⟨rv,c,d,e⟩:=k j hj;exact⟨rv,c,iK d b,e⟩
def decT(l:List Nat)(a:Art)(r3:List Nat):Option Art:=if r3=leB 4 (crcN (l.take (l.length - r3.length)))/\artE a=0 then some a else none
def decV(l:List Nat)(p:List (List Ins))(s:List Int)(r:List Nat):Option Art:=match rdVer r with
 | none=>none
 | some (v,r3)=>decT l ⟨p,s,v⟩ r3
def decS(l:List Nat)(p:List (List Ins))(r:List Nat):Option Art:=match rdSched r with
 | none=>none
 | some (s,r2)=>decV l p s r2
def decP(l:List Nat)(r:List Nat):Option Art:=match rdProg r with
 | none=>none
 | some (p,r1)=>decS l p r1
theorem vH{l a:List Nat}(h:rdLit [82,82,1] l=some ((),a)):decB l=decP l a:=by
 have e:=(oU _ _ _).1 h;have d:l=82::82::1::a:=e;have f:rdArt l=match rdProg a with
  | none=>none
  | some (p,b)=>match rdSched b with
   | none=>none
   | some (s,c)=>match rdVer c with
    | none=>none
    | some (v,r3)=>some (⟨p,s,v⟩,r3):=by rw [d];rfl
 unfold decB;rw [f];unfold decP decS decV decT;cases rdProg a with
 | none=>rfl
 | some x=>
  obtain⟨p,b⟩:=x;simp only;cases rdSched b with
  | none=>rfl
  | some x=>
   obtain⟨s,c⟩:=x;simp only;cases rdVer c with
   | none=>rfl
   | some x=>rfl
theorem rZ{l:List Nat}{k:Nat}(hk:k<=l.length)(a:Art):decT l a (l.drop k)=if rdLit (leB 4 (crcN (l.take k))) (l.drop k)=some ((),[])/\artE a=0 then some a else none:=by
 unfold decT;have e:l.length - (l.drop k).length=k:=by simp;omega
 rw [e];have b:(rdLit (leB 4 (crcN (l.take k))) (l.drop k)=some ((),[]))=(l.drop k=leB 4 (crcN (l.take k))):=by rw [oU,List.append_nil]
 simp only [b]
theorem ShpAt.past{w w':World}{b:Nat}(h:ShpAt w)(hg:w.grownBy w' (some b))(hb:b≠0):ShpAt w':=fun o j h1 h2=>by
 have:=h o j h1 h2;rw [hg.cell_far _ (World.block_lt_of_cell? _ _ this) (by simpa using Ne.symm hb)];exact this
theorem rY{l:List Nat}(h:rdLit [82,82,1] l=none):decB l=none:=by
 cases hd:decB l with
 | none=>rfl
 | some a=>
  obtain⟨r,b,_⟩:=vI hd;obtain⟨c,e⟩:=mt b;have:rdLit [82,82,1] l=some ((),c):=(oU _ _ _).2 e;rw [this]at h;cases h
structure ArS(W w:World)(b:Nat)(s:ByteArray)(k c d L:Nat)(tv sv:Value)(p:List (List Ins))(l:List Int)(v:Int × Int × Int)(us:Array Value):Prop where
 ins:InS W w b s k 56 c d #[tv,sv,.int .i64 v.1,.int .i64 v.2.1,.int .i64 v.2.2] us
 thr:ThrAt L w.heap.size w tv p
 own:w.ownsRow L 3 1 sv l.length (ints l)
 lb:b<L
 lc:c<L
 ld:d<L
theorem ArS.call{W w w':World}{b k k' c d L:Nat}{s:ByteArray}{tv sv:Value}{p:List (List Ins)}{l:List Int}{v:Int × Int × Int}{us:Array Value}(h:ArS W w b s k c d L tv sv p l v us)(h':RdS w w' b s k'):ArS W w' b s k' c d L tv sv p l v us:=
 ⟨h.ins.call h',(h.thr.step h'.base (fun q e=>by simp only [Option.some.injEq]at e;have:=h.lb;omega)).mono h'.base.size,rz h.own h'.base h.lb,h.lb,h.lc,h.ld⟩
theorem iQ{w:World}{base:Nat}{e:TypeId}{size:Nat}{v:Value}{n:Nat}{xs:List Value}{g o:Nat}{u:Value}(h:w.ownsRow base e size v n xs)(hg:g<base):(w.setCell ⟨g,o,none⟩ u).ownsRow base e size v n xs:=
 iC h (iM (w:=w) (b:=g) (o:=o) (v:=u)) (fun k e=>by simp only [Option.some.injEq]at e;omega)
theorem iS{L:Nat}{w:World}{tv:Value}{p:List (List Ins)}{g o:Nat}{u:Value}(h:ThrAt L w.heap.size w tv p)(hg:g<L):ThrAt L (w.setCell ⟨g,o,none⟩ u).heap.size (w.setCell ⟨g,o,none⟩ u) tv p:=
 (h.step (iM (w:=w) (b:=g) (o:=o) (v:=u)) (fun q e=>by simp only [Option.some.injEq]at e;omega)).mono (by simp)
theorem ArS.setS{W w:World}{b k c d L:Nat}{s:ByteArray}{tv sv sv':Value}{p:List (List Ins)}{l l':List Int}{v:Int × Int × Int}{us:Array Value}(h:ArS W w b s k c d L tv sv p l v us)(h':w.ownsRow L 3 1 sv' l'.length (ints l')):ArS W (w.setCell ⟨c,1,none⟩ sv') b s k c d L tv sv' p l' v us:=
 ⟨by simpa using h.ins.set 1 sv',iS h.thr h.lc,iQ h' h.lc,h.lb,h.lc,h.ld⟩
theorem ArS.setV{W w:World}{b k c d L:Nat}{s:ByteArray}{tv sv:Value}{p:List (List Ins)}{l:List Int}{v:Int × Int × Int}{us:Array Value}(h:ArS W w b s k c d L tv sv p l v us)(x:Int × Int × Int):
  ArS W (((w.setCell ⟨c,2,none⟩ (.int .i64 x.1)).setCell ⟨c,3,none⟩ (.int .i64 x.2.1)).setCell ⟨c,4,none⟩ (.int .i64 x.2.2)) b s k c d L tv sv p l x us:=
 ⟨by simpa using ((h.ins.set 2 (.int .i64 x.1)).set 3 (.int .i64 x.2.1)).set 4 (.int .i64 x.2.2),iS (iS (iS h.thr h.lc) h.lc) h.lc,iQ (iQ (iQ h.own h.lc) h.lc) h.lc,h.lb,h.lc,h.ld⟩
theorem ArS.first{W w:World}{b k c d L:Nat}{s:ByteArray}{tv:Value}{p:List (List Ins)}{us:Array Value}(h:InS W w b s k 56 c d #[.slice none 0 0,.slice none 0 0,.int .i64 0,.int .i64 0,.int .i64 0] us)(ht:ThrAt L w.heap.size w tv p)(hb:b<L)(hc:c<L)(hd:d<L):
  ArS W (w.setCell ⟨c,0,none⟩ tv) b s k c d L tv (.slice none 0 0) p [] (0,0,0) us:=
 ⟨by simpa using h.set 0 tv,iS ht hc,⟨rfl,Or.inl ⟨rfl,rfl⟩⟩,hb,hc,hd⟩
theorem ArS.out{W w:World}{b k c d L:Nat}{s:ByteArray}{tv sv:Value}{p:List (List Ins)}{l:List Int}{v:Int × Int × Int}{a:Array Value}(h:ArS W w b s k c d L tv sv p l v a)(e:a.size=5):
  ArS W (((((w.setCell ⟨d,0,none⟩ tv).setCell ⟨d,1,none⟩ sv).setCell ⟨d,2,none⟩ (.int .i64 v.1)).setCell ⟨d,3,none⟩ (.int .i64 v.2.1)).setCell ⟨d,4,none⟩ (.int .i64 v.2.2)) b s k c d L tv sv p l v #[tv,sv,.int .i64 v.1,.int .i64 v.2.1,.int .i64 v.2.2]:=by
 obtain⟨a⟩:=a;match a,e with
 | [a0,a1,a2,a3,a4],_=>
  exact⟨by simpa using ((((h.ins.rset 0 tv).rset 1 sv).rset 2 (.int .i64 v.1)).rset 3 (.int .i64 v.2.1)).rset 4 (.int .i64 v.2.2),
   iS (iS (iS (iS (iS h.thr h.ld) h.ld) h.ld) h.ld) h.ld,iQ (iQ (iQ (iQ (iQ h.own h.ld) h.ld) h.ld) h.ld) h.ld,h.lb,h.lc,h.ld⟩
def ReadS(W:World)(b L:Nat)(s:ByteArray)(e:Ending)(w':World):Prop:=
 (decB (byt s)=none/\Refused e/\W.grownBy w' (some b))\/
 ∃ a tv sv,decB (byt s)=some a/\e= .returned (artA tv sv a.ver)/\ThrAt L w'.heap.size w' tv a.prog/\w'.ownsRow L 3 1 sv a.sch.length (ints a.sch)/\W.grownBy w' (some b)
theorem tw(w:World)(b:Nat)(s:ByteArray)(al:ShpAt w)(aP:b≠0)(h:RdS w w b s 0)(H:s.size<=9223372036854775806):
  Calls Tryz.prog 97 #[pt b] w (ReadS w b (w.heap.size+2) s):=by
 have HH:=ij h;have av:=ij al;have hbw:=h.lt;have aQ:pt b= .pointer (some ⟨b,0,none⟩):=rfl;rw [aQ]at*;clear h al;go_enter Tryz.func97,Tryz.ntmps97
 go_wp2_with fail
 have E:=InS.start (T:=56) HH.out #[.slice none 0 0,.slice none 0 0,.int .i64 0,.int .i64 0,.int .i64 0] #[.slice none 0 0,.slice none 0 0,.int .i64 0,.int .i64 0,.int .i64 0];generalize ao:(w.alloc (.cells #[.slice none 0 0,.slice none 0 0,.int .i64 0,.int .i64 0,.int .i64 0] 56)).alloc (.cells #[.slice none 0 0,.slice none 0 0,.int .i64 0,.int .i64 0,.int .i64 0] 56)=w1 at E ⊢;have aR:w.heap.size+2<=w1.heap.size:=by rw [<-ao];simp
 clear ao;refine(BG w1 w1 b 0 s E.rd.self H).mono ?_;rintro e w2 (⟨a,rfl,i⟩ | ⟨_,G,v,k1,a,rfl,_,f,rfl⟩)
 ·have d:Hid (decB (byt s)=none):=rY a;have n:=ij (il E.rd.base i);clear a i E;go_wp2_with fail
  exact⟨rfl,Or.inl ⟨d.out,rfl,n.out⟩⟩
 have af:Hid (decB (byt s)=decP (byt s) ((byt s).drop k1)):=vH a;have I1:=E.call f;have hz2:w.heap.size+2<=w2.heap.size:=Nat.le_trans aR f.base.size;have O:=ij I1;clear E f a I1;go_wp2_with fail
 refine(wJ w2 w2 b k1 s O.out.rd.self H).mono ?_;rintro e R (⟨a,rfl,i⟩ | ⟨p,G,v,k2,a,rfl,I,f,rfl⟩)
 ·have d:Hid (decB (byt s)=none):=by unfold Hid;rw [af.out,decP,a]
  have n:=ij (il O.out.rd.base i);clear a i;go_wp2_with fail
  exact⟨rfl,Or.inl ⟨d.out,rfl,n.out⟩⟩
 have ag:Hid (decB (byt s)=decS (byt s) p ((byt s).drop k2)):=by unfold Hid;rw [af.out,decP,a]
 obtain⟨hp4,tv,rfl,ht⟩:=I;obtain⟨y,z,A,rfl⟩:=iw ht.choose_spec.1;have aj:Hid (ThrAt (w.heap.size+2) R.heap.size R (.slice y z A) p):=ht.low (by omega);have Q:=O.out.call f;have ad:=ij Q;have c3:R.cell? ⟨w.heap.size+1,0,none⟩=some (.slice none 0 0):=by simpa using Q.cell 0
 have f3:=Q.free 0;clear ht f a Q;go_wp2_with fail
 have o:=ArS.first ad.out aj.out (by omega) (by omega) (by omega);clear c3 f3 ad aj O;generalize R.setCell ⟨w.heap.size+1,0,none⟩ (.slice y z A)=w4 at o ⊢;have aS:w.heap.size+2<=w4.heap.size:=by
  have:=o.ins.rd.base.size;have h5:=(Array.getElem?_eq_some_iff.1 o.ins.var).1;omega
 refine(ux w4 w4 b k2 s o.ins.rd.self H).mono ?_;rintro e w5 (⟨a,rfl,i⟩ | ⟨l,G,sv,k3,a,rfl,I,f,rfl⟩)
 ·have d:Hid (decB (byt s)=none):=by unfold Hid;rw [ag.out,decS,a]
  have n:=ij (il o.ins.rd.base i);clear a i o;go_wp2_with fail
  exact⟨rfl,Or.inl ⟨d.out,rfl,n.out⟩⟩
 have ah:Hid (decB (byt s)=decV (byt s) p l ((byt s).drop k3)):=by unfold Hid;rw [ag.out,decS,a]
 obtain⟨r,t,u,rfl⟩:=iw I.2;have ae:Hid (w5.ownsRow (w.heap.size+2) 3 1 (.slice r t u) l.length (ints l)):=iK I.2 aS;have M:=ij (o.call f);have c5:w5.cell? ⟨w.heap.size+1,1,none⟩=some (.slice none 0 0):=by simpa using M.out.ins.cell 1
 have f5:=M.out.ins.free 1;clear I f a o;go_wp2_with fail
 have C:=M.out.setS ae.out;clear c5 f5 M ae;generalize w5.setCell ⟨w.heap.size+1,1,none⟩ (.slice r t u)=w6 at C ⊢;refine(Cj w6 w6 b k3 s C.ins.rd.self H).mono ?_;rintro e L (⟨a,rfl,i⟩ | ⟨x,G,v7,k4,a,rfl,rfl,f,rfl⟩)
 ·have d:Hid (decB (byt s)=none):=by unfold Hid;rw [ah.out,decV,a]
  have n:=ij (il C.ins.rd.base i);clear a i C;go_wp2_with fail
  exact⟨rfl,Or.inl ⟨d.out,rfl,n.out⟩⟩
 have ai:Hid (decB (byt s)=decT (byt s) ⟨p,l,x⟩ ((byt s).drop k4)):=by unfold Hid;rw [ah.out,decV,a]
 have q:=ij (C.call f);obtain⟨x1,x2,x3⟩:=x;have c7:L.cell? ⟨w.heap.size+1,2,none⟩=some (.int .i64 0):=by simpa using q.out.ins.cell 2
 have c8:L.cell? ⟨w.heap.size+1,3,none⟩=some (.int .i64 0):=by simpa using q.out.ins.cell 3
 have c9:L.cell? ⟨w.heap.size+1,4,none⟩=some (.int .i64 0):=by simpa using q.out.ins.cell 4
 have f7:=q.out.ins.free 2;have f8:=q.out.ins.free 3;have f9:=q.out.ins.free 4;clear f a C;unfold verA;go_wp2_with fail
 have m:=q.out.setV (x1,x2,x3);simp only at m;clear c7 c8 c9 f7 f8 f9 q;generalize ((L.setCell ⟨w.heap.size+1,2,none⟩ (.int .i64 x1)).setCell ⟨w.heap.size+1,3,none⟩ (.int .i64 x2)).setCell ⟨w.heap.size+1,4,none⟩ (.int .i64 x3)=w8 at m ⊢;refine(zO w8 w8 b k4 s m.ins.rd.self H).mono ?_;rintro e B (⟨a,rfl,i⟩ | ⟨_,G,v9,K,a,rfl,_,f,rfl⟩)
 ·have d:Hid (decB (byt s)=none):=by
   unfold Hid;rw [ai.out,rZ (by rw [iL];exact m.ins.rd.le),if_neg (by rw [a];simp)]
  have n:=ij (il m.ins.rd.base i);clear a i m;go_wp2_with fail
  exact⟨rfl,Or.inl ⟨d.out,rfl,n.out⟩⟩
 have U:Hid (decB (byt s)=if (byt s).drop K=[]/\artE ⟨p,l,(x1,x2,x3)⟩=0 then some ⟨p,l,(x1,x2,x3)⟩ else none):=by
  unfold Hid;rw [ai.out,rZ (by rw [iL];exact m.ins.rd.le),a]
  simp
 have j:=ij (m.call f);have c0:=j.out.ins.rd.c0;have c1:=j.out.ins.rd.c1;have hk5:=j.out.ins.rd.le;clear f m a;by_cases am:¬K=s.size
 ·have qe:((K:Int)==(s.size:Int))=false:=by simp;omega
  have d:Hid (decB (byt s)=none):=by
   unfold Hid;rw [U.out,if_neg]
   intro h;have:=List.drop_eq_nil_iff.1 h.1;rw [iL]at this;omega
  clear am;go_wp2_with fail
  go_still_tail 10,(by kernel_rfl)
  go_wp2_with (go_at_call 141;refine(i7 _).mono ?_;rintro e L ⟨rfl,rfl⟩)
  exact⟨rfl,Or.inl ⟨d.out,rfl,iy j.out.ins.rd.base⟩⟩
 have qe:((K:Int)==(s.size:Int))=true:=by simp;omega
 have P:Hid (decB (byt s)=if artE ⟨p,l,(x1,x2,x3)⟩=0 then some ⟨p,l,(x1,x2,x3)⟩ else none):=by
  have e:(byt s).drop K=[]:=List.drop_eq_nil_iff.2 (by rw [iL];omega);unfold Hid;rw [U.out,e];simp
 have D:=ij (j.out.call (j.out.ins.rd.self.grown (iy (ir _ _))));have V:B.cell? ⟨w.heap.size+1,0,none⟩=some (.slice y z A):=by simpa using j.out.ins.cell 0
 have W:B.cell? ⟨w.heap.size+1,1,none⟩=some (.slice r t u):=by simpa using j.out.ins.cell 1
 have X:B.cell? ⟨w.heap.size+1,2,none⟩=some (.int .i64 x1):=by simpa using j.out.ins.cell 2
 have Y:B.cell? ⟨w.heap.size+1,3,none⟩=some (.int .i64 x2):=by simpa using j.out.ins.cell 3
 have Z:B.cell? ⟨w.heap.size+1,4,none⟩=some (.int .i64 x3):=by simpa using j.out.ins.cell 4
 clear am U;have aw:Hid (ShpAt B.drew):=ShpAt.past av.out D.out.ins.rd.base aP;have N:=ij (oe ⟨p,l,(x1,x2,x3)⟩ (.slice y z A) (.slice r t u) B.drew aw.out D.out.thr.progAt (iV D.out.own));unfold artA at N;simp only at N;go_wp2_with fail
 go_still_tail 10,(by kernel_rfl)
 go_wp2_with (first | (go_at_call 141;refine(jd _).mono ?_;rintro e w11 ⟨⟨v11,rfl⟩,rfl⟩))
 refine N.out.mono ?_;rintro e k ⟨rfl,an⟩;have c:=D.out.call (D.out.ins.rd.self.grown an);have S:=ij c;clear c0 c1 V W X Y Z j D N an;by_cases F:artE ⟨p,l,(x1,x2,x3)⟩=0
 ·have V:k.cell? ⟨w.heap.size+1,0,none⟩=some (.slice y z A):=by simpa using c.ins.cell 0
  have W:k.cell? ⟨w.heap.size+1,1,none⟩=some (.slice r t u):=by simpa using c.ins.cell 1
  have X:k.cell? ⟨w.heap.size+1,2,none⟩=some (.int .i64 x1):=by simpa using c.ins.cell 2
  have Y:k.cell? ⟨w.heap.size+1,3,none⟩=some (.int .i64 x2):=by simpa using c.ins.cell 3
  have Z:k.cell? ⟨w.heap.size+1,4,none⟩=some (.int .i64 x3):=by simpa using c.ins.cell 4
  have r0:k.cell? ⟨w.heap.size,0,none⟩=some (.slice none 0 0):=by simpa using c.ins.rcell 0
  have G:k.cell? ⟨w.heap.size,1,none⟩=some (.slice none 0 0):=by simpa using c.ins.rcell 1
  have r2:k.cell? ⟨w.heap.size,2,none⟩=some (.int .i64 0):=by simpa using c.ins.rcell 2
  have r3:k.cell? ⟨w.heap.size,3,none⟩=some (.int .i64 0):=by simpa using c.ins.rcell 3
  have r4:k.cell? ⟨w.heap.size,4,none⟩=some (.int .i64 0):=by simpa using c.ins.rcell 4
  have g0:=c.ins.rfree 0;have g1:=c.ins.rfree 1;have g2:=c.ins.rfree 2;have g3:=c.ins.rfree 3;have g4:=c.ins.rfree 4;have d:Hid (decB (byt s)=some ⟨p,l,(x1,x2,x3)⟩):=by unfold Hid;rw [P.out,if_pos F]
  rw [F];clear F c P;go_wp2_with (go_at_call 141;refine(jd _).mono ?_;rintro e ar ⟨⟨v13,rfl⟩,rfl⟩)
  have J:=S.out.out rfl;simp only at J;clear V W X Y Z r0 G r2 r3 r4 g0 g1 g2 g3 g4 S;generalize hwz:(((((ar.setCell ⟨w.heap.size,0,none⟩ (.slice y z A)).setCell ⟨w.heap.size,1,none⟩ (.slice r t u)).setCell ⟨w.heap.size,2,none⟩ (.int .i64 x1)).setCell ⟨w.heap.size,3,none⟩ (.int .i64 x2)).setCell ⟨w.heap.size,4,none⟩ (.int .i64 x3))=wz at J ⊢;have e0:wz.cell? ⟨w.heap.size,0,none⟩=some (.slice y z A):=by simpa using J.ins.rcell 0
  have e1:wz.cell? ⟨w.heap.size,1,none⟩=some (.slice r t u):=by simpa using J.ins.rcell 1
  have e2:wz.cell? ⟨w.heap.size,2,none⟩=some (.int .i64 x1):=by simpa using J.ins.rcell 2
  have e3:wz.cell? ⟨w.heap.size,3,none⟩=some (.int .i64 x2):=by simpa using J.ins.rcell 3
  have e4:wz.cell? ⟨w.heap.size,4,none⟩=some (.int .i64 x3):=by simpa using J.ins.rcell 4
  refine bodyPost_ret (v:= .agg #[.slice y z A,.slice r t u,.int .i64 x1,.int .i64 x2,.int .i64 x3]) ?_ rfl ?_
  ·simp [results,Tryz.results97,go_sem,e0,e1,e2,e3,e4]
  ·exact Or.inr ⟨⟨p,l,(x1,x2,x3)⟩,_,_,d.out,rfl,J.thr,J.own,J.ins.rd.base⟩
 ·have qn:(artE ⟨p,l,(x1,x2,x3)⟩==0)=false:=by simpa using F
  have d:Hid (decB (byt s)=none):=by unfold Hid;rw [P.out,if_neg F]
  clear F c P;generalize artE ⟨p,l,(x1,x2,x3)⟩=ee at*;go_wp2_with (go_at_call 141;refine(i7 _).mono ?_;rintro e ar ⟨rfl,rfl⟩)
  exact⟨rfl,Or.inl ⟨d.out,rfl,S.out.ins.rd.base⟩⟩
theorem tB(b d:Addr)(w:World):
  CallsD Tryz.prog 96 #[.pointer (some b),.pointer (some d)] .returning w fun e u' w'=>e= .returned (.tuple #[])/\u'= .returning/\w'=w:=by
 refine callsD_of_wpS Tryz.func96 rfl fun c₀ cs hu=>?_
 apply wpS_seq;apply wpS_region;simp [wpOpsS,go_sem,recoverD,hu,Tryz.ntmps96,Exit.thenS];refine wpS_of_wp ?_;have a:Array.replicate 11 undef=#[undef,undef,undef,undef,undef,undef,undef,undef,undef,undef,undef]:=rfl;simp only [a,List.append_toArray,List.setIfInBounds_toArray,List.set_cons_succ,List.set_cons_zero,List.cons_append,List.nil_append];go_wp2_with fail
 cases c₀
 simp_all [bodyPostS,results,Tryz.results96]
theorem pu(a d:Nat)(o:List PanicEntry)(h i j k l m:Value)(w:World)(b:w.heap[a]?=some (.cells #[h,i,j,k,l] 56 (0,0)))(f:w.heap[d]?=some (.cells #[m] 32 (0,0)))(n:a≠d):
  CallsD Tryz.prog 96 #[pt a,pt d] (.panicking ({ v:= .iface 174 (.int .i64 3),recovered:=false}::o)) w fun e u' w'=>e= .returned (.tuple #[])/\u'= .panicking ({ v:= .iface 174 (.int .i64 3),recovered:=true}::o)/\
   w'=((((((w.setCell ⟨a,0,none⟩ (.slice none 0 0)).setCell ⟨a,1,none⟩ (.slice none 0 0)).setCell ⟨a,2,none⟩ (.int .i64 0)).setCell ⟨a,3,none⟩ (.int .i64 0)).setCell ⟨a,4,none⟩ (.int .i64 0)).setCell ⟨d,0,none⟩ (.int .i64 3)):=by
 unfold pt;refine callsD_of_wpS Tryz.func96 rfl fun c₀ cs hu=>?_
 apply wpS_seq;apply wpS_region;simp [wpOpsS,go_sem,recoverD,hu,Tryz.ntmps96,Exit.thenS];refine wpS_of_wp ?_;have p:Array.replicate 11 undef=#[undef,undef,undef,undef,undef,undef,undef,undef,undef,undef,undef]:=rfl;simp only [p,List.append_toArray,List.setIfInBounds_toArray,List.set_cons_succ,List.set_cons_zero,List.cons_append,List.nil_append];have d0:w.cell? ⟨a,0,none⟩=some h:=by simp [World.cell?,b]
 have d1:w.cell? ⟨a,1,none⟩=some i:=by simp [World.cell?,b]
 have d2:w.cell? ⟨a,2,none⟩=some j:=by simp [World.cell?,b]
 have d3:w.cell? ⟨a,3,none⟩=some k:=by simp [World.cell?,b]
 have d4:w.cell? ⟨a,4,none⟩=some l:=by simp [World.cell?,b]
 have d5:w.cell? ⟨d,0,none⟩=some m:=by simp [World.cell?,f]
 have z0:w.frozen? ⟨a,0,none⟩=false:=by simp [World.frozen?,b]
 have z1:w.frozen? ⟨a,1,none⟩=false:=by simp [World.frozen?,b]
 have z2:w.frozen? ⟨a,2,none⟩=false:=by simp [World.frozen?,b]
 have z3:w.frozen? ⟨a,3,none⟩=false:=by simp [World.frozen?,b]
 have z4:w.frozen? ⟨a,4,none⟩=false:=by simp [World.frozen?,b]
 have z5:w.frozen? ⟨d,0,none⟩=false:=by simp [World.frozen?,f]
 have hba:¬d=a:=fun e=>n e.symm
 have hab':¬a=d:=n;clear b f;have hta:∀ w:World,(Instr.typeAssert (.iface 174 (.int .i64 3)) 20 174 true).run Tryz.prog w= .ok (.tuple #[.int .i64 3,.bool true]) w:=fun _=>by kernel_rfl
 go_wp2_with fail
 simp [bodyPostS,results,Tryz.results96]
def DecS(w:World)(L:Nat)(s:ByteArray)(e:Ending)(w':World):Prop:=w.grownBy w' none/\
 ((decB (byt s)=none/\e= .returned (.tuple #[artA (.slice none 0 0) (.slice none 0 0) (0,0,0),.int .i64 3]))\/
 ∃ a tv sv,decB (byt s)=some a/\e= .returned (.tuple #[artA tv sv a.ver,.int .i64 0])/\ThrAt L w'.heap.size w' tv a.prog/\w'.ownsRow L 3 1 sv a.sch.length (ints a.sch))
theorem vg(w:World)(a b:Nat)(q r s t u p:Value)(B:w.heap[a]?=some (.cells #[q,r,s,t,u] 56 (0,0)))(C:w.heap[b]?=some (.cells #[p] 32 (0,0)))(j:a≠b)(c d e f h l:Value):
  let w':=(((((w.setCell ⟨a,0,none⟩ c).setCell ⟨a,1,none⟩ d).setCell ⟨a,2,none⟩ e).setCell ⟨a,3,none⟩ f).setCell ⟨a,4,none⟩ h).setCell ⟨b,0,none⟩ l
  w'.cell? ⟨a,0,none⟩=some c/\w'.cell? ⟨a,1,none⟩=some d/\w'.cell? ⟨a,2,none⟩=some e/\w'.cell? ⟨a,3,none⟩=some f/\w'.cell? ⟨a,4,none⟩=some h/\w'.cell? ⟨b,0,none⟩=some l/\
   (w'.os=w.os/\w'.tape=w.tape/\w'.output=w.output/\w'.heap.size=w.heap.size/\∀ k,k≠a->k≠b->w'.heap[k]?=w.heap[k]?):=by
 have i:=heap_setCell_same w a 0 _ _ c B;have m:=heap_setCell_same _ a 1 _ _ d i;have x:=heap_setCell_same _ a 2 _ _ e m;have y:=heap_setCell_same _ a 3 _ _ f x;have z:=heap_setCell_same _ a 4 _ _ h y;have v:((((((w.setCell ⟨a,0,none⟩ c).setCell ⟨a,1,none⟩ d).setCell ⟨a,2,none⟩ e).setCell ⟨a,3,none⟩ f).setCell ⟨a,4,none⟩ h)).heap[b]?=some (.cells #[p] 32 (0,0)):=by
  rw [heap_setCell_other _ _ _ _ (Ne.symm j),heap_setCell_other _ _ _ _ (Ne.symm j),heap_setCell_other _ _ _ _ (Ne.symm j),heap_setCell_other _ _ _ _ (Ne.symm j),heap_setCell_other _ _ _ _ (Ne.symm j)];exact C
 have A:=heap_setCell_same _ b 0 _ _ l v;have g6:(((((((w.setCell ⟨a,0,none⟩ c).setCell ⟨a,1,none⟩ d).setCell ⟨a,2,none⟩ e).setCell ⟨a,3,none⟩ f).setCell ⟨a,4,none⟩ h)).setCell ⟨b,0,none⟩ l).heap[a]?=some (.cells #[c,d,e,f,h] 56 (0,0)):=by
  rw [heap_setCell_other _ _ _ _ j];exact z
 refine⟨?_,?_,?_,?_,?_,?_,?_⟩
 ·simp [World.cell?,g6]
 ·simp [World.cell?,g6]
 ·simp [World.cell?,g6]
 ·simp [World.cell?,g6]
 ·simp [World.cell?,g6]
 ·simp [World.cell?,A]
 ·have n:w.grownBy (((((w.setCell ⟨a,0,none⟩ c).setCell ⟨a,1,none⟩ d).setCell ⟨a,2,none⟩ e).setCell ⟨a,3,none⟩ f).setCell ⟨a,4,none⟩ h) (some a):=il (il (il (il iM iM) iM) iM) iM;have o:(((((w.setCell ⟨a,0,none⟩ c).setCell ⟨a,1,none⟩ d).setCell ⟨a,2,none⟩ e).setCell ⟨a,3,none⟩ f).setCell ⟨a,4,none⟩ h).grownBy ((((((w.setCell ⟨a,0,none⟩ c).setCell ⟨a,1,none⟩ d).setCell ⟨a,2,none⟩ e).setCell ⟨a,3,none⟩ f).setCell ⟨a,4,none⟩ h).setCell ⟨b,0,none⟩ l) (some b):=iM;refine⟨o.os.trans n.os,o.tape.trans n.tape,o.output.trans n.output,by simp,fun k i m=>?_⟩;rw [heap_setCell_other _ _ _ _ m,heap_setCell_other _ _ _ _ i,heap_setCell_other _ _ _ _ i,heap_setCell_other _ _ _ _ i,heap_setCell_other _ _ _ _ i,heap_setCell_other _ _ _ _ i]
theorem pY{w w3 w4 wz:World}{b ba be:Nat}(h:w.grownBy w3 none)(h':w3.grownBy w4 (some b))(hz:wz.os=w4.os/\wz.tape=w4.tape/\wz.output=w4.output/\wz.heap.size=w4.heap.size/\∀ k,k≠ba->k≠be->wz.heap[k]?=w4.heap[k]?)
  (hb:w.heap.size<=b) (ha:w.heap.size<=ba) (he:w.heap.size<=be):w.grownBy wz none:=
 ⟨hz.1.trans (h'.os.trans h.os),hz.2.1.trans (h'.tape.trans h.tape),hz.2.2.1.trans (h'.output.trans h.output),by rw [hz.2.2.2.1];exact Nat.le_trans h.size h'.size,fun k hk _=>by
  rw [hz.2.2.2.2 k (by omega) (by omega),h'.block k (Nat.lt_of_lt_of_le hk h.size) (fun e=>by simp only [Option.some.injEq]at e;omega)];exact h.block k hk (by simp)⟩
theorem kT{w w3 w4:World}{b:Nat}(h:w.grownBy w3 none)(h':w3.grownBy w4 (some b))(hb:w.heap.size<=b):w.grownBy w4 none:=
 ⟨h'.os.trans h.os,h'.tape.trans h.tape,h'.output.trans h.output,Nat.le_trans h.size h'.size,fun k hk _=>by
  rw [h'.block k (Nat.lt_of_lt_of_le hk h.size) (fun e=>by simp only [Option.some.injEq]at e;omega)];exact h.block k hk (by simp)⟩
theorem BR(s:ByteArray)(w:World)(U:ShpAt w)(Z:s.size<=9223372036854775806):
  Calls Tryz.prog 70 #[.string s] w (DecS w (w.heap.size+5) s):=by
 have hmf:∀ (fn:Fn) (first cap:Array Value) (w:World),(Instr.makeFunc fn first cap).run Tryz.prog w= .ok (.func fn first cap) w:=fun _ _ _ _=>rfl
 have Y:=ij U;clear U;go_enter_defers Tryz.func70,Tryz.ntmps70
 go_wp2_with fail
 have k:w.grownBy (((w.alloc (.cells #[.slice none 0 0,.slice none 0 0,.int .i64 0,.int .i64 0,.int .i64 0] 56)).alloc (.cells #[.int .i64 0] 32)).alloc (.cells #[.string s,.int .i64 0] 176)) none:=iq (iq (iq (ir _ _)));have F:(((w.alloc (.cells #[.slice none 0 0,.slice none 0 0,.int .i64 0,.int .i64 0,.int .i64 0] 56)).alloc (.cells #[.int .i64 0] 32)).alloc (.cells #[.string s,.int .i64 0] 176)).heap[w.heap.size]?=some (.cells #[.slice none 0 0,.slice none 0 0,.int .i64 0,.int .i64 0,.int .i64 0] 56 (0,0)):=by
  rw [Below.heap_alloc _ _ _ (by simp;omega),Below.heap_alloc _ _ _ (by simp)];exact heap_alloc_new _ _
 have G:(((w.alloc (.cells #[.slice none 0 0,.slice none 0 0,.int .i64 0,.int .i64 0,.int .i64 0] 56)).alloc (.cells #[.int .i64 0] 32)).alloc (.cells #[.string s,.int .i64 0] 176)).heap[w.heap.size+1]?=some (.cells #[.int .i64 0] 32 (0,0)):=by
  rw [Below.heap_alloc _ _ _ (by simp)];have:=heap_alloc_new (w.alloc (.cells #[.slice none 0 0,.slice none 0 0,.int .i64 0,.int .i64 0,.int .i64 0] 56)) (.cells #[.int .i64 0] 32);simpa using this
 have H:(((w.alloc (.cells #[.slice none 0 0,.slice none 0 0,.int .i64 0,.int .i64 0,.int .i64 0] 56)).alloc (.cells #[.int .i64 0] 32)).alloc (.cells #[.string s,.int .i64 0] 176)).heap[w.heap.size+1+1]?=some (.cells #[.string s,.int .i64 0] 176 (0,0)):=by
  have:=heap_alloc_new ((w.alloc (.cells #[.slice none 0 0,.slice none 0 0,.int .i64 0,.int .i64 0,.int .i64 0] 56)).alloc (.cells #[.int .i64 0] 32)) (.cells #[.string s,.int .i64 0] 176);simpa using this
 have W:(((w.alloc (.cells #[.slice none 0 0,.slice none 0 0,.int .i64 0,.int .i64 0,.int .i64 0] 56)).alloc (.cells #[.int .i64 0] 32)).alloc (.cells #[.string s,.int .i64 0] 176)).heap.size=w.heap.size+3:=by simp
 generalize (((w.alloc (.cells #[.slice none 0 0,.slice none 0 0,.int .i64 0,.int .i64 0,.int .i64 0] 56)).alloc (.cells #[.int .i64 0] 32)).alloc (.cells #[.string s,.int .i64 0] 176))=w3 at k F G H W ⊢;have X:=ij (tw w3 (w.heap.size+1+1) s (ShpAt.pres Y.out (ip k)) (by omega) ⟨H,ir _ _,Nat.zero_le _⟩ Z);have d:Hid (w3.heap.size+2=w.heap.size+5):=by unfold Hid;omega
 have N:=ij k;have V:∀ b,w3.grownBy b (some (w.heap.size+1+1))->b.heap[w.heap.size]?=some (.cells #[.slice none 0 0,.slice none 0 0,.int .i64 0,.int .i64 0,.int .i64 0] 56 (0,0))/\b.heap[w.heap.size+1]?=some (.cells #[.int .i64 0] 32 (0,0)):=fun b h=>
  ⟨by rw [h.block _ (by omega) (by simp only [ne_eq,Option.some.injEq];omega)];exact F,by rw [h.block _ (by omega) (by simp only [ne_eq,Option.some.injEq];omega)];exact G⟩
 have M:=ij V;clear k F G H W V;refine X.out.mono ?_;rintro e b (⟨j,rfl,h⟩ | ⟨a,tv,sv,j,rfl,K,I,h⟩)
 ·have y:=ij j;obtain⟨c,i⟩:=M.out b h;have x:=ij h;clear j h;go_wp2_with fail
  refine leaves_cons (f:=96) (args:= #[pt w.heap.size,pt (w.heap.size+1)]) (by simp) (by simp [go_sem,pt]) ?_;refine(pu w.heap.size (w.heap.size+1) [] _ _ _ _ _ _ b c i (by omega)).mono ?_;rintro e u' w5 ⟨rfl,rfl,rfl⟩;have J:=vg b w.heap.size (w.heap.size+1) _ _ _ _ _ _ c i (by omega) (.slice none 0 0) (.slice none 0 0) (.int .i64 0) (.int .i64 0) (.int .i64 0) (.int .i64 3);generalize ((((((b.setCell ⟨w.heap.size,0,none⟩ (.slice none 0 0)).setCell ⟨w.heap.size,1,none⟩ (.slice none 0 0)).setCell ⟨w.heap.size,2,none⟩ (.int .i64 0)).setCell ⟨w.heap.size,3,none⟩ (.int .i64 0)).setCell ⟨w.heap.size,4,none⟩ (.int .i64 0)).setCell ⟨w.heap.size+1,0,none⟩ (.int .i64 3))=wz at J ⊢;obtain⟨z,A,B,C,D,E,L⟩:=J;simp [Leaves,settle,results,Tryz.results70,go_sem,z,A,B,C,D,E];refine⟨pY N.out x.out L (by omega) (by omega) (by omega),Or.inl ⟨y.out,rfl⟩⟩
 ·have y:=ij j;obtain⟨c,i⟩:=M.out b h;have x:=ij h;obtain⟨r,t,v,rfl⟩:=iw K.choose_spec.1;obtain⟨m,n,q,rfl⟩:=iw I;obtain⟨p,l,x1,x2,x3⟩:=a;have R:=ij K;have O:=ij I;have d0:b.cell? ⟨w.heap.size,0,none⟩=some (.slice none 0 0):=by simp [World.cell?,c]
  have z0:b.frozen? ⟨w.heap.size,0,none⟩=false:=by simp [World.frozen?,c]
  have d1:b.cell? ⟨w.heap.size,1,none⟩=some (.slice none 0 0):=by simp [World.cell?,c]
  have z1:b.frozen? ⟨w.heap.size,1,none⟩=false:=by simp [World.frozen?,c]
  have d2:b.cell? ⟨w.heap.size,2,none⟩=some (.int .i64 0):=by simp [World.cell?,c]
  have z2:b.frozen? ⟨w.heap.size,2,none⟩=false:=by simp [World.frozen?,c]
  have d3:b.cell? ⟨w.heap.size,3,none⟩=some (.int .i64 0):=by simp [World.cell?,c]
  have z3:b.frozen? ⟨w.heap.size,3,none⟩=false:=by simp [World.frozen?,c]
  have d4:b.cell? ⟨w.heap.size,4,none⟩=some (.int .i64 0):=by simp [World.cell?,c]
  have z4:b.frozen? ⟨w.heap.size,4,none⟩=false:=by simp [World.frozen?,c]
  have d5:b.cell? ⟨w.heap.size+1,0,none⟩=some (.int .i64 0):=by simp [World.cell?,i]
  have z5:b.frozen? ⟨w.heap.size+1,0,none⟩=false:=by simp [World.frozen?,i]
  clear j h K I;unfold artA;simp only at R O ⊢;go_wp2_with fail
  refine leaves_cons (f:=96) (args:= #[pt w.heap.size,pt (w.heap.size+1)]) (by simp) (by simp [go_sem,pt]) ?_;refine(tB ⟨w.heap.size,0,none⟩ ⟨w.heap.size+1,0,none⟩ _).mono ?_;rintro e u' w5 ⟨rfl,rfl,rfl⟩;have J:=vg b w.heap.size (w.heap.size+1) _ _ _ _ _ _ c i (by omega) (.slice r t v) (.slice m n q) (.int .i64 x1) (.int .i64 x2) (.int .i64 x3) (.int .i64 0);have S:=ij (iS (g:=w.heap.size+1) (o:=0) (u:= .int .i64 0) (iS (g:=w.heap.size) (o:=4) (u:= .int .i64 x3) (iS (g:=w.heap.size) (o:=3) (u:= .int .i64 x2) (iS (g:=w.heap.size) (o:=2) (u:= .int .i64 x1) (iS (g:=w.heap.size) (o:=1) (u:= .slice m n q) (iS (g:=w.heap.size) (o:=0) (u:= .slice r t v) R.out (by have:=d.out;omega)) (by have:=d.out;omega)) (by have:=d.out;omega)) (by have:=d.out;omega)) (by have:=d.out;omega)) (by have:=d.out;omega));have P:=ij (iQ (g:=w.heap.size+1) (o:=0) (u:= .int .i64 0) (iQ (g:=w.heap.size) (o:=4) (u:= .int .i64 x3) (iQ (g:=w.heap.size) (o:=3) (u:= .int .i64 x2) (iQ (g:=w.heap.size) (o:=2) (u:= .int .i64 x1) (iQ (g:=w.heap.size) (o:=1) (u:= .slice m n q) (iQ (g:=w.heap.size) (o:=0) (u:= .slice r t v) O.out (by have:=d.out;omega)) (by have:=d.out;omega)) (by have:=d.out;omega)) (by have:=d.out;omega)) (by have:=d.out;omega)) (by have:=d.out;omega));generalize ((((((b.setCell ⟨w.heap.size,0,none⟩ (.slice r t v)).setCell ⟨w.heap.size,1,none⟩ (.slice m n q)).setCell ⟨w.heap.size,2,none⟩ (.int .i64 x1)).setCell ⟨w.heap.size,3,none⟩ (.int .i64 x2)).setCell ⟨w.heap.size,4,none⟩ (.int .i64 x3)).setCell ⟨w.heap.size+1,0,none⟩ (.int .i64 0))=wz at J S P ⊢;obtain⟨z,A,B,C,D,E,L⟩:=J;simp [Leaves,settle,results,Tryz.results70,go_sem,z,A,B,C,D,E];have T:=S.out;have Q:=P.out;rw [d.out]at T Q;exact⟨pY N.out x.out L (by omega) (by omega) (by omega),Or.inr ⟨_,_,_,y.out,rfl,T,Q⟩⟩
theorem lU(w:World)(a:Nat)(i j k l m:Value)(r:w.heap[a]?=some (.cells #[i,j,k,l,m] 56 (0,0)))(c d e f h:Value):
  let w':=((((w.setCell ⟨a,0,none⟩ c).setCell ⟨a,1,none⟩ d).setCell ⟨a,2,none⟩ e).setCell ⟨a,3,none⟩ f).setCell ⟨a,4,none⟩ h
  w'.cell? ⟨a,0,none⟩=some c/\w'.cell? ⟨a,1,none⟩=some d/\w'.cell? ⟨a,2,none⟩=some e/\w'.cell? ⟨a,3,none⟩=some f/\w'.cell? ⟨a,4,none⟩=some h/\w.grownBy w' (some a):=by
 have n:=heap_setCell_same w a 0 _ _ c r;have o:=heap_setCell_same _ a 1 _ _ d n;have p:=heap_setCell_same _ a 2 _ _ e o;have q:=heap_setCell_same _ a 3 _ _ f p;have b:=heap_setCell_same _ a 4 _ _ h q;refine⟨?_,?_,?_,?_,?_,il (il (il (il iM iM) iM) iM) iM⟩
 ·simp [World.cell?,b]
 ·simp [World.cell?,b]
 ·simp [World.cell?,b]
 ·simp [World.cell?,b]
 ·simp [World.cell?,b]
theorem xL(s:ByteArray)(w:World)(T:ShpAt w)(Y:s.size<=9223372036854775806):
  Calls Tryz.prog 41 #[.string s] w (DecS w (w.heap.size+6) s):=by
 have X:=ij T;clear T;go_enter Tryz.func41,Tryz.ntmps41
 go_wp2_with fail
 have n:w.grownBy (w.alloc (.cells #[.slice none 0 0,.slice none 0 0,.int .i64 0,.int .i64 0,.int .i64 0] 56)) none:=iq (ir _ _);have F:=heap_alloc_new w (.cells #[.slice none 0 0,.slice none 0 0,.int .i64 0,.int .i64 0,.int .i64 0] 56);have U:(w.alloc (.cells #[.slice none 0 0,.slice none 0 0,.int .i64 0,.int .i64 0,.int .i64 0] 56)).heap.size=w.heap.size+1:=by simp
 generalize w.alloc (.cells #[.slice none 0 0,.slice none 0 0,.int .i64 0,.int .i64 0,.int .i64 0] 56)=w1 at n F U ⊢;have Q:=ij (BR s w1 (ShpAt.pres X.out (ip n)) Y);have W:Hid (w1.heap.size+5=w.heap.size+6):=by unfold Hid;omega
 rw [W.out]at Q;have V:=ij n;refine Q.out.mono ?_;rintro e b ⟨G,d⟩;have c:b.heap[w.heap.size]?=some (.cells #[.slice none 0 0,.slice none 0 0,.int .i64 0,.int .i64 0,.int .i64 0] 56 (0,0)):=by
  rw [G.block _ (by omega) (by simp)];exact F
 have N:=ij (il V.out G);clear n F G U;rcases d with ⟨d,rfl⟩ | ⟨a,tv,sv,d,rfl,ht,ho⟩
 ·have q:=ij d;have r:b.cell? ⟨w.heap.size,0,none⟩=some (.slice none 0 0):=by simp [World.cell?,c]
  have I:b.frozen? ⟨w.heap.size,0,none⟩=false:=by simp [World.frozen?,c]
  have t:b.cell? ⟨w.heap.size,1,none⟩=some (.slice none 0 0):=by simp [World.cell?,c]
  have z1:b.frozen? ⟨w.heap.size,1,none⟩=false:=by simp [World.frozen?,c]
  have x:b.cell? ⟨w.heap.size,2,none⟩=some (.int .i64 0):=by simp [World.cell?,c]
  have K:b.frozen? ⟨w.heap.size,2,none⟩=false:=by simp [World.frozen?,c]
  have y:b.cell? ⟨w.heap.size,3,none⟩=some (.int .i64 0):=by simp [World.cell?,c]
  have L:b.frozen? ⟨w.heap.size,3,none⟩=false:=by simp [World.frozen?,c]
  have z:b.cell? ⟨w.heap.size,4,none⟩=some (.int .i64 0):=by simp [World.cell?,c]
  have M:b.frozen? ⟨w.heap.size,4,none⟩=false:=by simp [World.frozen?,c]
  clear d;unfold artA;simp only;go_wp2_with fail
  have J:=lU b w.heap.size _ _ _ _ _ c (.slice none 0 0) (.slice none 0 0) (.int .i64 0) (.int .i64 0) (.int .i64 0);clear r t x y z I z1 K L M;generalize (((((b.setCell ⟨w.heap.size,0,none⟩ (.slice none 0 0)).setCell ⟨w.heap.size,1,none⟩ (.slice none 0 0)).setCell ⟨w.heap.size,2,none⟩ (.int .i64 0)).setCell ⟨w.heap.size,3,none⟩ (.int .i64 0)).setCell ⟨w.heap.size,4,none⟩ (.int .i64 0))=wz at J ⊢;obtain⟨A,B,C,D,E,H⟩:=J;refine bodyPost_ret (v:= .tuple #[.agg #[.slice none 0 0,.slice none 0 0,.int .i64 0,.int .i64 0,.int .i64 0],.int .i64 3]) ?_ rfl ?_
  ·simp [results,Tryz.results41,go_sem,A,B,C,D,E]
  ·exact⟨kT N.out H (Nat.le_refl _),Or.inl ⟨q.out,rfl⟩⟩
 ·have q:=ij d;obtain⟨j,k,m,rfl⟩:=iw ht.choose_spec.1;obtain⟨f,h,i,rfl⟩:=iw ho;obtain⟨p,l,x1,x2,x3⟩:=a;have R:=ij ht;have O:=ij ho;have r:b.cell? ⟨w.heap.size,0,none⟩=some (.slice none 0 0):=by simp [World.cell?,c]
  have I:b.frozen? ⟨w.heap.size,0,none⟩=false:=by simp [World.frozen?,c]
  have t:b.cell? ⟨w.heap.size,1,none⟩=some (.slice none 0 0):=by simp [World.cell?,c]
  have z1:b.frozen? ⟨w.heap.size,1,none⟩=false:=by simp [World.frozen?,c]
  have x:b.cell? ⟨w.heap.size,2,none⟩=some (.int .i64 0):=by simp [World.cell?,c]
  have K:b.frozen? ⟨w.heap.size,2,none⟩=false:=by simp [World.frozen?,c]
  have y:b.cell? ⟨w.heap.size,3,none⟩=some (.int .i64 0):=by simp [World.cell?,c]
  have L:b.frozen? ⟨w.heap.size,3,none⟩=false:=by simp [World.frozen?,c]
  have z:b.cell? ⟨w.heap.size,4,none⟩=some (.int .i64 0):=by simp [World.cell?,c]
  have M:b.frozen? ⟨w.heap.size,4,none⟩=false:=by simp [World.frozen?,c]
  clear d ht ho;unfold artA;simp only at R O ⊢;go_wp2_with fail
  have J:=lU b w.heap.size _ _ _ _ _ c (.slice j k m) (.slice f h i) (.int .i64 x1) (.int .i64 x2) (.int .i64 x3);have S:=ij (iS (g:=w.heap.size) (o:=4) (u:= .int .i64 x3) (iS (g:=w.heap.size) (o:=3) (u:= .int .i64 x2) (iS (g:=w.heap.size) (o:=2) (u:= .int .i64 x1) (iS (g:=w.heap.size) (o:=1) (u:= .slice f h i) (iS (g:=w.heap.size) (o:=0) (u:= .slice j k m) R.out (by omega)) (by omega)) (by omega)) (by omega)) (by omega));have P:=ij (iQ (g:=w.heap.size) (o:=4) (u:= .int .i64 x3) (iQ (g:=w.heap.size) (o:=3) (u:= .int .i64 x2) (iQ (g:=w.heap.size) (o:=2) (u:= .int .i64 x1) (iQ (g:=w.heap.size) (o:=1) (u:= .slice f h i) (iQ (g:=w.heap.size) (o:=0) (u:= .slice j k m) O.out (by omega)) (by omega)) (by omega)) (by omega)) (by omega));clear r t x y z I z1 K L M;generalize (((((b.setCell ⟨w.heap.size,0,none⟩ (.slice j k m)).setCell ⟨w.heap.size,1,none⟩ (.slice f h i)).setCell ⟨w.heap.size,2,none⟩ (.int .i64 x1)).setCell ⟨w.heap.size,3,none⟩ (.int .i64 x2)).setCell ⟨w.heap.size,4,none⟩ (.int .i64 x3))=wz at J S P ⊢;obtain⟨A,B,C,D,E,H⟩:=J;refine bodyPost_ret (v:= .tuple #[.agg #[.slice j k m,.slice f h i,.int .i64 x1,.int .i64 x2,.int .i64 x3],.int .i64 0]) ?_ rfl ?_
  ·simp [results,Tryz.results41,go_sem,A,B,C,D,E]
  ·exact⟨kT N.out H (Nat.le_refl _),Or.inr ⟨_,_,_,q.out,rfl,S.out,P.out⟩⟩
structure WrL(W w:World)(b:Nat)(bv:Value)(l:List Nat)(T c:Nat)(vs:Array Value):Prop where
 wr:WrS W w b bv l
 var:w.heap[c]?=some (.cells vs T (0,0))
 cb:c≠b
 co:bv.ownBlock≠some c
theorem WrL.call{W w w':World}{b T c:Nat}{d a:Value}{l i:List Nat}{j:Array Value}(h:WrL W w b d l T c j)(k:WrS W w' b a i)(f:WrT w w' b d a):WrL W w' b a i T c j:=by
 have hc:=(Array.getElem?_eq_some_iff.1 h.var).1;refine⟨k,by rw [f.keep c hc h.cb h.co];exact h.var,h.cb,fun e=>?_⟩;rcases f.own c e with e | e
 ·exact h.co e
 ·omega
theorem WrL.cell{W w:World}{b T c:Nat}{d:Value}{l:List Nat}{a:Array Value}(h:WrL W w b d l T c a)(o:Nat):w.cell? ⟨c,o,none⟩=a[o]?:=by
 have:=h.var;simp [World.cell?,this]
theorem WrL.start{W w:World}{b:Nat}{a:Value}{l:List Nat}(h:WrS W w b a l)(T:Nat)(c:Array Value):WrL W (w.alloc (.cells c T)) b a l T w.heap.size c:=by
 have hb:=h.lt;refine⟨h.grown (iq (ir _ _)),heap_alloc_new _ _,by omega,fun e=>?_⟩;have:=h.row.lt _ e;omega
theorem xm(W:World)(b:Nat)(v:Int × Int × Int)(p:0<=v.1/\v.1<=9223372036854775807)(q:0<=v.2.1/\v.2.1<=9223372036854775807)(r:0<=v.2.2/\v.2.2<=9223372036854775807)
  (w:World) (k:Value) (l:List Nat) (h:WrS W w b k l) (hl:l.length<=900000):
  Calls Tryz.prog 94 #[pt b,.agg #[.int .i64 v.1,.int .i64 v.2.1,.int .i64 v.2.2]] w (Wrote W w b k (l++verB v)):=by
 obtain⟨x,y,z⟩:=v;simp only at p q r ⊢;have F:=ij h;have K:pt b= .pointer (some ⟨b,0,none⟩):=rfl;rw [K]at*;clear h;go_enter Tryz.func94,Tryz.ntmps94
 go_wp2_with fail
 have m:=WrL.start F.out 26 #[.int .i64 x,.int .i64 y,.int .i64 z];have o:WrT w (w.alloc (.cells #[.int .i64 x,.int .i64 y,.int .i64 z] 26)) b k k:=(WrT.refl _ _ _).grown (iq (ir _ _));generalize w.alloc (.cells #[.int .i64 x,.int .i64 y,.int .i64 z] 26)=w1 at m o ⊢;refine(jY W b x p.1 p.2 w1 k (l) m.wr (by omega)).mono ?_;rintro e x1 ⟨⟨v1,rfl⟩,G,C,s⟩;have d:=m.call C s;have i:=o.trans s;have c1:x1.cell? ⟨w.heap.size,1,none⟩=some (.int .i64 y):=by simpa using d.cell 1
 have a:=ij d;have c:=ij i;clear d i m o C s;go_wp2_with fail
 have d:=a.out;have i:=c.out;clear a c c1;refine(jY W b y q.1 q.2 x1 G (l++wInt x) d.wr (by simp [wInt];have:=kn (n:=x.toNat) (by omega);omega)).mono ?_;rintro e x2 ⟨⟨v2,rfl⟩,H,D,t⟩;have f:=d.call D t;have j:=i.trans t;have J:x2.cell? ⟨w.heap.size,2,none⟩=some (.int .i64 z):=by simpa using f.cell 2
 have a:=ij f;have c:=ij j;clear f j d i D t;go_wp2_with fail
 have f:=a.out;have j:=c.out;clear a c J;refine(jY W b z r.1 r.2 x2 H (l++wInt x++wInt y) f.wr (by simp [wInt];have:=kn (n:=x.toNat) (by omega);have:=kn (n:=y.toNat) (by omega);omega)).mono ?_;rintro e x3 ⟨⟨v3,rfl⟩,I,E,u⟩;have A:=f.call E u;have B:=j.trans u;have a:=ij A.wr;have c:=ij B;clear A B f j E u;go_wp2_with fail
 go_end0
 refine⟨⟨_,rfl⟩,I,?_,c.out⟩;have:=a.out;unfold verB;simpa using this
theorem zP(W:World)(b:Nat)(w:World)(bv:Value)(l:List Nat)(h:WrS W w b bv l)(hl:l.length<=900000)(P:∀ x∈l,x<256):
  Calls Tryz.prog 95 #[pt b] w (Wrote W w b bv (l++leB 4 (crcN l))):=by
 have Y:=ij h;have ac:pt b= .pointer (some ⟨b,0,none⟩):=rfl;rw [ac]at*;have c0:=h.cell;have cv:=h.row.str;have M:=ij (pP (bs l) w (by rw [nX];omega));rw [tz P]at M;have hC:=uM l P;generalize crcN l=C at*;obtain⟨x1,x3,rfl⟩:=h.row.form;clear h P ac;go_enter Tryz.func95,Tryz.ntmps95
 go_wp2_with (go_at_call 135;refine M.out.mono ?_;rintro e w2 ⟨rfl,S⟩;have Z:=ij (Y.out.grown (iH S));have aa:=ij ((WrT.refl w b (.slice x1 l.length x3)).grown (iH S));clear S)
 clear c0 cv;go_loopw [10] (fun i w'=>∃ (j:Nat) (bv':Value),j<=4/\i= .int .i64 j/\Hid (WrS W w' b bv' (l++(leB 4 C).take j))/\Hid (WrT w w' b (.slice x1 l.length x3) bv')) (fun i _=>4 - (intOf i).toNat)
 case atStart=>exact⟨0,_,by omega,rfl,ij (by simpa using Z.out),aa⟩
 case round=>
  clear Y Z aa M;obtain⟨j,ae,hj,rfl,k,K⟩:=hrel;obtain⟨c,ad⟩:∃ c,c=wr:=⟨_,rfl⟩;rw [<-ad]at k K ⊢;clear ad;have ag:j=0\/j=1\/j=2\/j=3\/j=4:=by omega
  rcases ag with rfl | rfl | rfl | rfl | rfl
  ·have HX:Hid ((leB 4 C).take 1=(leB 4 C).take 0++[C % 256]):=by unfold Hid;simp [leB,Nat.div_div_eq_div_mul]
   have V:IntKind.i64.wrap 0=0:=by decide
   have X:IntKind.u8.wrap ((C:Int))=((C % 256:Nat):Int):=by rw [IntKind.wrap_u8'];omega
   have T:(l++(leB 4 C).take 0).length<=1000000:=by simp;omega
   generalize C % 256=y at*;generalize s:l++(leB 4 C).take 0=L at*;have D:=ij s;clear s;obtain⟨d,f,rfl⟩:=k.out.row.form;have H:c.cell? ⟨b,0,none⟩=some (.slice d L.length f):=k.out.cell;go_wp2_with fail
   refine iz (fun u=>u.cell? ⟨b,0,none⟩=some (.slice d L.length f)) 14 (by kernel_rfl) (by kernel_rfl) ?_ ?_
   ·simp [go_sem,H]
   intro Q;refine ie 0 ?v0_1 rfl (by kernel_rfl) (fun _ _ _ h=>h) (by rfl) ?y0_1 (by assumption) ?_
   case y0_1=>(intro u a;go_simp;try rfl)
   simp only [Act.put,List.setIfInBounds_toArray];refine ie 1 ?v1_2 rfl (by kernel_rfl) (fun _ _ _ h=>h) (by rfl) ?y1_2 (by assumption) ?_
   case y1_2=>(intro u a;go_simp;try rfl)
   simp only [Act.put];refine ie 2 ?v2_3 rfl (by kernel_rfl) (fun _ _ _ h=>h) (by rfl) ?y2_3 (by assumption) ?_
   case y2_3=>(intro u a;go_simp;try rfl)
   simp only [Act.put];refine ie 3 ?v3_4 rfl (by kernel_rfl) (fun _ _ _ h=>h) (by rfl) ?y3_4 (by assumption) ?_
   case y3_4=>(intro u a;go_simp;try rfl)
   simp only [Act.put];refine ie 4 ?v4_5 rfl (by kernel_rfl) (fun _ _ _ h=>h) (by rfl) ?y4_5 (by assumption) ?_
   case y4_5=>(intro u a;go_simp;try rfl)
   simp only [Act.put];refine ie 5 ?v5_6 rfl (by kernel_rfl) (fun _ _ _ h=>h) (by rfl) ?y5_6 (by assumption) ?_
   case y5_6=>(intro u a;go_simp;try rfl)
   simp only [Act.put];refine ie 6 ?v6_7 rfl (by kernel_rfl) (fun _ _ _ h=>h) (by rfl) ?y6_7 (by assumption) ?_
   case y6_7=>(intro u a;go_simp;try rfl)
   simp only [Act.put];refine ie 7 ?v7_8 rfl (by kernel_rfl) (fun _ _ _ h=>h) (by rfl) ?y7_8 (by assumption) ?_
   case y7_8=>(intro u a;go_simp;try rfl)
   simp only [Act.put];refine ie 8 ?v8_9 rfl (by kernel_rfl) (fun _ _ _ h=>h) (by rfl) ?y8_9 (by assumption) ?_
   case y8_9=>(intro u a;go_simp;try rfl)
   simp only [Act.put];refine ie 9 ?v9_10 rfl (by kernel_rfl) (fun _ _ _ h=>h) (by rfl) ?y9_10 (by assumption) ?_
   case y9_10=>(intro u a;go_simp;try rfl)
   simp only [Act.put];have m:Hid (WrS W c.drew b (.slice d L.length f) L):=k.out.grown (iy (ir _ _));have E:Hid (WrT w c.drew b (.slice x1 l.length x3) (.slice d L.length f)):=K.out.grown (iy (ir _ _));have R:W.heap.size<=c.heap.size:=k.out.base.size;refine iu (i:=10) rfl (by kernel_rfl) (by kernel_rfl) (by rfl) ?_;intro N q;have n:=ij q;clear q;go_simp;refine n.out _ _ (ip (iq (ir _ _)) _ _ m.out.cell) ?_;clear n;try simp only [Act.put,List.setIfInBounds_toArray]
   refine iu (i:=11) rfl (by kernel_rfl) (by kernel_rfl) (by rfl) ?_;intro O r;have o:=ij r;clear r;refine ko _ (.tmp 17) (.tmp 23) (by rfl) W.heap.size (.slice d L.length f) L.length (u8s L) (by rfl) m.out.row.alloc c.heap.size (.int .u8 (y:Int)) (by rfl) (heap_alloc_new c.drew _) rfl (by omega) (by simp;omega) (c.heap.size+1) (by simp) ?_;intro g6 p w6 z v t I;obtain⟨A,J,U,B⟩:=m.out.push z v t;have F:Hid (WrS W (w6.setCell ⟨b,0,none⟩ (.slice (some ⟨g6,0,none⟩) (L.length+1) p)) b (.slice (some ⟨g6,0,none⟩) (L.length+1) p) (l++(leB 4 C).take 1)):=by
    unfold Hid;rw [HX.out,<-List.append_assoc,D.out];exact A
   have G:=ij (E.out.trans B);clear A B z v t I;refine o.out _ _ J ?_;clear o;try simp only [Act.put,List.setIfInBounds_toArray]
   refine ie 12 ?v12_0b rfl (by kernel_rfl) (fun _ _ _ h=>h) (by rfl) ?y12_0b (by assumption) ?_
   case y12_0b=>(intro u a;go_simp;try rfl)
   simp only [Act.put];refine ie 13 ?v13_0b rfl (by kernel_rfl) (fun _ _ _ h=>h) (by rfl) ?y13_0b (by assumption) ?_
   case y13_0b=>(intro u a;go_simp;try rfl)
   simp only [Act.put];refine iF rfl (by kernel_rfl) (by kernel_rfl) (by rfl) ?_;go_simp;go_wp2
   go_roundw
   case rel=>exact⟨1,_,by omega,by first | rfl | go_num,F,G⟩
   case measure=>simp [intOf]
  ·have HX:Hid ((leB 4 C).take 2=(leB 4 C).take 1++[C / 256 % 256]):=by unfold Hid;simp [leB,Nat.div_div_eq_div_mul]
   have V:IntKind.i64.wrap 8=8:=by decide
   have X:IntKind.u8.wrap ((C:Int) / 256)=((C / 256 % 256:Nat):Int):=by rw [IntKind.wrap_u8'];omega
   have T:(l++(leB 4 C).take 1).length<=1000000:=by simp [lS];omega
   generalize C / 256 % 256=y at*;generalize s:l++(leB 4 C).take 1=L at*;have D:=ij s;clear s;obtain⟨d,f,rfl⟩:=k.out.row.form;have H:c.cell? ⟨b,0,none⟩=some (.slice d L.length f):=k.out.cell;go_wp2_with fail
   refine iz (fun u=>u.cell? ⟨b,0,none⟩=some (.slice d L.length f)) 14 (by kernel_rfl) (by kernel_rfl) ?_ ?_
   ·simp [go_sem,H]
   intro Q;refine ie 0 ?v0_11 rfl (by kernel_rfl) (fun _ _ _ h=>h) (by rfl) ?y0_11 (by assumption) ?_
   case y0_11=>(intro u a;go_simp;try rfl)
   simp only [Act.put,List.setIfInBounds_toArray];refine ie 1 ?v1_12 rfl (by kernel_rfl) (fun _ _ _ h=>h) (by rfl) ?y1_12 (by assumption) ?_
   case y1_12=>(intro u a;go_simp;try rfl)
   simp only [Act.put];refine ie 2 ?v2_13 rfl (by kernel_rfl) (fun _ _ _ h=>h) (by rfl) ?y2_13 (by assumption) ?_
   case y2_13=>(intro u a;go_simp;try rfl)
   simp only [Act.put];refine ie 3 ?v3_14 rfl (by kernel_rfl) (fun _ _ _ h=>h) (by rfl) ?y3_14 (by assumption) ?_
   case y3_14=>(intro u a;go_simp;try rfl)
   simp only [Act.put];refine ie 4 ?v4_15 rfl (by kernel_rfl) (fun _ _ _ h=>h) (by rfl) ?y4_15 (by assumption) ?_
   case y4_15=>(intro u a;go_simp;try rfl)
   simp only [Act.put];refine ie 5 ?v5_16 rfl (by kernel_rfl) (fun _ _ _ h=>h) (by rfl) ?y5_16 (by assumption) ?_
   case y5_16=>(intro u a;go_simp;try rfl)
   simp only [Act.put];refine ie 6 ?v6_17 rfl (by kernel_rfl) (fun _ _ _ h=>h) (by rfl) ?y6_17 (by assumption) ?_
   case y6_17=>(intro u a;go_simp;try rfl)
   simp only [Act.put];refine ie 7 ?v7_18 rfl (by kernel_rfl) (fun _ _ _ h=>h) (by rfl) ?y7_18 (by assumption) ?_
   case y7_18=>(intro u a;go_simp;try rfl)
   simp only [Act.put];refine ie 8 ?v8_19 rfl (by kernel_rfl) (fun _ _ _ h=>h) (by rfl) ?y8_19 (by assumption) ?_
   case y8_19=>(intro u a;go_simp;try rfl)
   simp only [Act.put];refine ie 9 ?v9_20 rfl (by kernel_rfl) (fun _ _ _ h=>h) (by rfl) ?y9_20 (by assumption) ?_
   case y9_20=>(intro u a;go_simp;try rfl)
   simp only [Act.put];have m:Hid (WrS W c.drew b (.slice d L.length f) L):=k.out.grown (iy (ir _ _));have E:Hid (WrT w c.drew b (.slice x1 l.length x3) (.slice d L.length f)):=K.out.grown (iy (ir _ _));have R:W.heap.size<=c.heap.size:=k.out.base.size;refine iu (i:=10) rfl (by kernel_rfl) (by kernel_rfl) (by rfl) ?_;intro N q;have n:=ij q;clear q;go_simp;refine n.out _ _ (ip (iq (ir _ _)) _ _ m.out.cell) ?_;clear n;try simp only [Act.put,List.setIfInBounds_toArray]
   refine iu (i:=11) rfl (by kernel_rfl) (by kernel_rfl) (by rfl) ?_;intro O r;have o:=ij r;clear r;refine ko _ (.tmp 17) (.tmp 23) (by rfl) W.heap.size (.slice d L.length f) L.length (u8s L) (by rfl) m.out.row.alloc c.heap.size (.int .u8 (y:Int)) (by rfl) (heap_alloc_new c.drew _) rfl (by omega) (by simp;omega) (c.heap.size+1) (by simp) ?_;intro g6 p w6 z v t I;obtain⟨A,J,U,B⟩:=m.out.push z v t;have F:Hid (WrS W (w6.setCell ⟨b,0,none⟩ (.slice (some ⟨g6,0,none⟩) (L.length+1) p)) b (.slice (some ⟨g6,0,none⟩) (L.length+1) p) (l++(leB 4 C).take 2)):=by
    unfold Hid;rw [HX.out,<-List.append_assoc,D.out];exact A
   have G:=ij (E.out.trans B);clear A B z v t I;refine o.out _ _ J ?_;clear o;try simp only [Act.put,List.setIfInBounds_toArray]
   refine ie 12 ?v12_1b rfl (by kernel_rfl) (fun _ _ _ h=>h) (by rfl) ?y12_1b (by assumption) ?_
   case y12_1b=>(intro u a;go_simp;try rfl)
   simp only [Act.put];refine ie 13 ?v13_1b rfl (by kernel_rfl) (fun _ _ _ h=>h) (by rfl) ?y13_1b (by assumption) ?_
   case y13_1b=>(intro u a;go_simp;try rfl)
   simp only [Act.put];refine iF rfl (by kernel_rfl) (by kernel_rfl) (by rfl) ?_;go_simp;go_wp2
   go_roundw
   case rel=>exact⟨2,_,by omega,by first | rfl | go_num,F,G⟩
   case measure=>simp [intOf]
  ·have HX:Hid ((leB 4 C).take 3=(leB 4 C).take 2++[C / 65536 % 256]):=by unfold Hid;simp [leB,Nat.div_div_eq_div_mul]
   have V:IntKind.i64.wrap 16=16:=by decide
   have X:IntKind.u8.wrap ((C:Int) / 65536)=((C / 65536 % 256:Nat):Int):=by rw [IntKind.wrap_u8'];omega
   have T:(l++(leB 4 C).take 2).length<=1000000:=by simp [lS];omega
   generalize C / 65536 % 256=y at*;generalize s:l++(leB 4 C).take 2=L at*;have D:=ij s;clear s;obtain⟨d,f,rfl⟩:=k.out.row.form;have H:c.cell? ⟨b,0,none⟩=some (.slice d L.length f):=k.out.cell;go_wp2_with fail
   refine iz (fun u=>u.cell? ⟨b,0,none⟩=some (.slice d L.length f)) 14 (by kernel_rfl) (by kernel_rfl) ?_ ?_
   ·simp [go_sem,H]
   intro Q;refine ie 0 ?v0_21 rfl (by kernel_rfl) (fun _ _ _ h=>h) (by rfl) ?y0_21 (by assumption) ?_
   case y0_21=>(intro u a;go_simp;try rfl)
   simp only [Act.put,List.setIfInBounds_toArray];refine ie 1 ?v1_22 rfl (by kernel_rfl) (fun _ _ _ h=>h) (by rfl) ?y1_22 (by assumption) ?_
   case y1_22=>(intro u a;go_simp;try rfl)
   simp only [Act.put];refine ie 2 ?v2_23 rfl (by kernel_rfl) (fun _ _ _ h=>h) (by rfl) ?y2_23 (by assumption) ?_
   case y2_23=>(intro u a;go_simp;try rfl)
   simp only [Act.put];refine ie 3 ?v3_24 rfl (by kernel_rfl) (fun _ _ _ h=>h) (by rfl) ?y3_24 (by assumption) ?_
   case y3_24=>(intro u a;go_simp;try rfl)
   simp only [Act.put];refine ie 4 ?v4_25 rfl (by kernel_rfl) (fun _ _ _ h=>h) (by rfl) ?y4_25 (by assumption) ?_
   case y4_25=>(intro u a;go_simp;try rfl)
   simp only [Act.put];refine ie 5 ?v5_26 rfl (by kernel_rfl) (fun _ _ _ h=>h) (by rfl) ?y5_26 (by assumption) ?_
   case y5_26=>(intro u a;go_simp;try rfl)
   simp only [Act.put];refine ie 6 ?v6_27 rfl (by kernel_rfl) (fun _ _ _ h=>h) (by rfl) ?y6_27 (by assumption) ?_
   case y6_27=>(intro u a;go_simp;try rfl)
   simp only [Act.put];refine ie 7 ?v7_28 rfl (by kernel_rfl) (fun _ _ _ h=>h) (by rfl) ?y7_28 (by assumption) ?_
   case y7_28=>(intro u a;go_simp;try rfl)
   simp only [Act.put];refine ie 8 ?v8_29 rfl (by kernel_rfl) (fun _ _ _ h=>h) (by rfl) ?y8_29 (by assumption) ?_
   case y8_29=>(intro u a;go_simp;try rfl)
   simp only [Act.put];refine ie 9 ?v9_30 rfl (by kernel_rfl) (fun _ _ _ h=>h) (by rfl) ?y9_30 (by assumption) ?_
   case y9_30=>(intro u a;go_simp;try rfl)
   simp only [Act.put];have m:Hid (WrS W c.drew b (.slice d L.length f) L):=k.out.grown (iy (ir _ _));have E:Hid (WrT w c.drew b (.slice x1 l.length x3) (.slice d L.length f)):=K.out.grown (iy (ir _ _));have R:W.heap.size<=c.heap.size:=k.out.base.size;refine iu (i:=10) rfl (by kernel_rfl) (by kernel_rfl) (by rfl) ?_;intro N q;have n:=ij q;clear q;go_simp;refine n.out _ _ (ip (iq (ir _ _)) _ _ m.out.cell) ?_;clear n;try simp only [Act.put,List.setIfInBounds_toArray]
   refine iu (i:=11) rfl (by kernel_rfl) (by kernel_rfl) (by rfl) ?_;intro O r;have o:=ij r;clear r;refine ko _ (.tmp 17) (.tmp 23) (by rfl) W.heap.size (.slice d L.length f) L.length (u8s L) (by rfl) m.out.row.alloc c.heap.size (.int .u8 (y:Int)) (by rfl) (heap_alloc_new c.drew _) rfl (by omega) (by simp;omega) (c.heap.size+1) (by simp) ?_;intro g6 p w6 z v t I;obtain⟨A,J,U,B⟩:=m.out.push z v t;have F:Hid (WrS W (w6.setCell ⟨b,0,none⟩ (.slice (some ⟨g6,0,none⟩) (L.length+1) p)) b (.slice (some ⟨g6,0,none⟩) (L.length+1) p) (l++(leB 4 C).take 3)):=by
    unfold Hid;rw [HX.out,<-List.append_assoc,D.out];exact A
   have G:=ij (E.out.trans B);clear A B z v t I;refine o.out _ _ J ?_;clear o;try simp only [Act.put,List.setIfInBounds_toArray]
   refine ie 12 ?v12_2b rfl (by kernel_rfl) (fun _ _ _ h=>h) (by rfl) ?y12_2b (by assumption) ?_
   case y12_2b=>(intro u a;go_simp;try rfl)
   simp only [Act.put];refine ie 13 ?v13_2b rfl (by kernel_rfl) (fun _ _ _ h=>h) (by rfl) ?y13_2b (by assumption) ?_
   case y13_2b=>(intro u a;go_simp;try rfl)
   simp only [Act.put];refine iF rfl (by kernel_rfl) (by kernel_rfl) (by rfl) ?_;go_simp;go_wp2
   go_roundw
   case rel=>exact⟨3,_,by omega,by first | rfl | go_num,F,G⟩
   case measure=>simp [intOf]
  ·have HX:Hid ((leB 4 C).take 4=(leB 4 C).take 3++[C / 16777216 % 256]):=by unfold Hid;simp [leB,Nat.div_div_eq_div_mul]
   have V:IntKind.i64.wrap 24=24:=by decide
   have X:IntKind.u8.wrap ((C:Int) / 16777216)=((C / 16777216 % 256:Nat):Int):=by rw [IntKind.wrap_u8'];omega
   have T:(l++(leB 4 C).take 3).length<=1000000:=by simp [lS];omega
   generalize C / 16777216 % 256=y at*;generalize s:l++(leB 4 C).take 3=L at*;have D:=ij s;clear s;obtain⟨d,f,rfl⟩:=k.out.row.form;have H:c.cell? ⟨b,0,none⟩=some (.slice d L.length f):=k.out.cell;go_wp2_with fail
   refine iz (fun u=>u.cell? ⟨b,0,none⟩=some (.slice d L.length f)) 14 (by kernel_rfl) (by kernel_rfl) ?_ ?_
   ·simp [go_sem,H]
   intro Q;refine ie 0 ?v0_31 rfl (by kernel_rfl) (fun _ _ _ h=>h) (by rfl) ?y0_31 (by assumption) ?_
   case y0_31=>(intro u a;go_simp;try rfl)
   simp only [Act.put,List.setIfInBounds_toArray];refine ie 1 ?v1_32 rfl (by kernel_rfl) (fun _ _ _ h=>h) (by rfl) ?y1_32 (by assumption) ?_
   case y1_32=>(intro u a;go_simp;try rfl)
   simp only [Act.put];refine ie 2 ?v2_33 rfl (by kernel_rfl) (fun _ _ _ h=>h) (by rfl) ?y2_33 (by assumption) ?_
   case y2_33=>(intro u a;go_simp;try rfl)
   simp only [Act.put];refine ie 3 ?v3_34 rfl (by kernel_rfl) (fun _ _ _ h=>h) (by rfl) ?y3_34 (by assumption) ?_
   case y3_34=>(intro u a;go_simp;try rfl)
   simp only [Act.put];refine ie 4 ?v4_35 rfl (by kernel_rfl) (fun _ _ _ h=>h) (by rfl) ?y4_35 (by assumption) ?_
   case y4_35=>(intro u a;go_simp;try rfl)
   simp only [Act.put];refine ie 5 ?v5_36 rfl (by kernel_rfl) (fun _ _ _ h=>h) (by rfl) ?y5_36 (by assumption) ?_
   case y5_36=>(intro u a;go_simp;try rfl)
   simp only [Act.put];refine ie 6 ?v6_37 rfl (by kernel_rfl) (fun _ _ _ h=>h) (by rfl) ?y6_37 (by assumption) ?_
   case y6_37=>(intro u a;go_simp;try rfl)
   simp only [Act.put];refine ie 7 ?v7_38 rfl (by kernel_rfl) (fun _ _ _ h=>h) (by rfl) ?y7_38 (by assumption) ?_
   case y7_38=>(intro u a;go_simp;try rfl)
   simp only [Act.put];refine ie 8 ?v8_39 rfl (by kernel_rfl) (fun _ _ _ h=>h) (by rfl) ?y8_39 (by assumption) ?_
   case y8_39=>(intro u a;go_simp;try rfl)
   simp only [Act.put];refine ie 9 ?v9_40 rfl (by kernel_rfl) (fun _ _ _ h=>h) (by rfl) ?y9_40 (by assumption) ?_
   case y9_40=>(intro u a;go_simp;try rfl)
   simp only [Act.put];have m:Hid (WrS W c.drew b (.slice d L.length f) L):=k.out.grown (iy (ir _ _));have E:Hid (WrT w c.drew b (.slice x1 l.length x3) (.slice d L.length f)):=K.out.grown (iy (ir _ _));have R:W.heap.size<=c.heap.size:=k.out.base.size;refine iu (i:=10) rfl (by kernel_rfl) (by kernel_rfl) (by rfl) ?_;intro N q;have n:=ij q;clear q;go_simp;refine n.out _ _ (ip (iq (ir _ _)) _ _ m.out.cell) ?_;clear n;try simp only [Act.put,List.setIfInBounds_toArray]
   refine iu (i:=11) rfl (by kernel_rfl) (by kernel_rfl) (by rfl) ?_;intro O r;have o:=ij r;clear r;refine ko _ (.tmp 17) (.tmp 23) (by rfl) W.heap.size (.slice d L.length f) L.length (u8s L) (by rfl) m.out.row.alloc c.heap.size (.int .u8 (y:Int)) (by rfl) (heap_alloc_new c.drew _) rfl (by omega) (by simp;omega) (c.heap.size+1) (by simp) ?_;intro g6 p w6 z v t I;obtain⟨A,J,U,B⟩:=m.out.push z v t;have F:Hid (WrS W (w6.setCell ⟨b,0,none⟩ (.slice (some ⟨g6,0,none⟩) (L.length+1) p)) b (.slice (some ⟨g6,0,none⟩) (L.length+1) p) (l++(leB 4 C).take 4)):=by
    unfold Hid;rw [HX.out,<-List.append_assoc,D.out];exact A
   have G:=ij (E.out.trans B);clear A B z v t I;refine o.out _ _ J ?_;clear o;try simp only [Act.put,List.setIfInBounds_toArray]
   refine ie 12 ?v12_3b rfl (by kernel_rfl) (fun _ _ _ h=>h) (by rfl) ?y12_3b (by assumption) ?_
   case y12_3b=>(intro u a;go_simp;try rfl)
   simp only [Act.put];refine ie 13 ?v13_3b rfl (by kernel_rfl) (fun _ _ _ h=>h) (by rfl) ?y13_3b (by assumption) ?_
   case y13_3b=>(intro u a;go_simp;try rfl)
   simp only [Act.put];refine iF rfl (by kernel_rfl) (by kernel_rfl) (by rfl) ?_;go_simp;go_wp2
   go_roundw
   case rel=>exact⟨4,_,by omega,by first | rfl | go_num,F,G⟩
   case measure=>simp [intOf]
  ·go_wp2_with fail
   go_end0
   refine⟨⟨_,rfl⟩,ae,?_,K.out⟩;have:=k.out;rwa [List.take_of_length_le (by rw [lS];exact Nat.le_refl _)]at this
theorem lK{p:List (List Ins)}(h:vProg p=true):p.length<=4/\∀ c∈p,c.length<=16:=by
 simp only [vProg,Bool.and_eq_true,decide_eq_true_eq,List.all_eq_true]at h;refine⟨h.2.1,fun c hc=>?_⟩;have:=h.2.2 c hc;simp only [vCode,Bool.and_eq_true,decide_eq_true_eq]at this;exact this.1
theorem kR{α:Type}(f:α->List Nat)(B:Nat)(q:List α)(h:∀ x∈q,(f x).length<=B):(q.flatMap f).length<=B*q.length:=by
 induction q with
 | nil=>simp
 | cons x q ih=>
  have h1:=h x (by simp);have h2:=ih (fun y hy=>h y (by simp [hy]));rw [List.flatMap_cons,List.length_append,List.length_cons,Nat.mul_succ];omega
theorem nB{α:Type}(f:α->List Nat)(q:List α)(k:Nat)(h:k<q.length):(q.take (k+1)).flatMap f=(q.take k).flatMap f++f q[k]:=by
 rw [List.take_succ_eq_append_getElem h,List.flatMap_append];simp
theorem i8{n:Int}(h:n<=9223372036854775807):(wInt n).length<=10:=kn (by omega)
theorem sy{i:Ins}(h:insInt i):(insB i).length<=40:=by
 obtain⟨⟨a1,a⟩,⟨b1,b⟩,⟨c1,c⟩,⟨d1,d2⟩⟩:=h;unfold insB;have h1:=i8 a;have h2:=i8 b;have h3:=i8 c;have h4:(numB (zig i.n)).length<=10:=kn (by unfold zig;split<;>omega);simp only [List.length_append];omega
theorem pR{c:List Ins}(h:c.length<=16)(a:∀ i∈c,insInt i):(codeB c).length<=650:=by
 unfold codeB;have h1:=i8 (n:=c.length) (by omega);have h2:=kR insB 40 c (fun i h=>sy (a i h));simp only [List.length_append];omega
theorem wH{p:List (List Ins)}(d:vProg p=true)(b:∀ c∈p,∀ i∈c,insInt i):(progB p).length<=2610:=by
 obtain⟨h4,a⟩:=lK d;unfold progB;have h1:=i8 (n:=p.length) (by omega);have h2:=kR codeB 650 p (fun c h=>pR (a c h) (b c h));simp only [List.length_append];omega
theorem wK(W:World)(b:Nat)(p:List (List Ins))(pv:Value)(w:World)(u:Value)(l:List Nat)(h:WrS W w b u l)(hl:l.length<=900)(hP:ProgAt W pv p)(U:vProg p=true)(hi:∀ c∈p,∀ i∈c,insInt i):
  Calls Tryz.prog 92 #[pt b,pv] w (Wrote W w b u (l++progB p)):=by
 obtain⟨G,J,rfl,ah⟩:=hP;have HH:=ij h;have HP:=ij ah;have a0:pt b= .pointer (some ⟨b,0,none⟩):=rfl;rw [a0]at*;clear h ah;go_enter Tryz.func92,Tryz.ntmps92
 go_wp2_with fail
 have r:=WrL.start HH.out 37 #[.slice G p.length J];have y:WrT w (w.alloc (.cells #[.slice G p.length J] 37)) b u u:=(WrT.refl _ _ _).grown (iq (ir _ _));generalize w.alloc (.cells #[.slice G p.length J] 37)=w1 at r y ⊢;have hp4:p.length<=4:=(lK U).1;refine(jY W b p.length (by omega) (by omega) w1 u l r.wr (by omega)).mono ?_;rintro e w2 ⟨⟨v2,rfl⟩,aN,F,z⟩;have m:=r.call F z;have s:=y.trans z;have I:w2.cell? ⟨w.heap.size,0,none⟩=some (.slice G p.length J):=by simpa using m.cell 0
 have f:=ij m.wr;have j:=ij s;have Z:=ij (lK U).2;have X:=ij hi;clear m s r y F z U hi;go_wp2_with fail
 clear I;go_loopw [16] (fun i w'=>∃ (t:Nat) (bv':Value),t<=p.length/\i= .int .i64 t/\Hid (WrS W w' b bv' (l++wInt p.length++(p.take t).flatMap codeB))/\Hid (WrT w w' b u bv')) (fun i _=>p.length - (intOf i).toNat)
 case atStart=>exact⟨0,aN,Nat.zero_le _,rfl,ij (by simpa using f.out),j⟩
 case round=>
  clear f j;obtain⟨t,O,ht,rfl,d,q⟩:=hrel;obtain⟨L,aw⟩:∃ L,L=wr:=⟨_,rfl⟩;rw [<-aw]at d q ⊢;clear aw;by_cases K:t<p.length
  ·obtain⟨g,o,rfl,rv,c0,aZ⟩:=HP.out t K;obtain⟨ca,cc,rfl,hC⟩:=aZ;have P:=ip d.out.base _ _ c0;have HC:=ij hC;have q0:(0:Int)<=(t:Int):=by omega
   have q1:(t:Int)<p.length:=by omega
   have hc16:p[t].length<=16:=Z.out _ (List.getElem_mem K);have Y:=ij (X.out p[t] (List.getElem_mem K));have aH:=ij (nB codeB p t K);have M:Hid ((l++wInt p.length++(p.take t).flatMap codeB).length<=4000):=by
    unfold Hid;have h1:=i8 (n:=p.length) (by omega);have Q:=kR codeB 650 (p.take t) (fun c h=>pR (Z.out c (List.mem_of_mem_take h)) (X.out c (List.mem_of_mem_take h)));simp only [List.length_append,List.length_take]at Q ⊢;have h3:650*min t p.length<=650*4:=Nat.mul_le_mul_left _ (by omega);omega
   generalize ak:l++wInt p.length++(p.take t).flatMap codeB=l1 at d M ⊢;have aD:=ij ak;clear ak;generalize p[t]=c at*;clear c0 hC;go_wp2_with fail
   refine(jY W b c.length (by omega) (by omega) L O l1 d.out (by have:=M.out;omega)).mono ?_;rintro e w6 ⟨⟨v6,rfl⟩,aO,aq,au⟩;have V:=ij aq;have T6:=ij (q.out.trans au);clear aq au d q P;go_wp2_with fail
   go_loopw [26] (fun i w'=>∃ (k:Nat) (bv':Value),k<=c.length/\i= .int .i64 k/\Hid (WrS W w' b bv' (l1++wInt c.length++(c.take k).flatMap insB))/\Hid (WrT w w' b u bv')) (fun i _=>c.length - (intOf i).toNat)
   case atStart=>exact⟨0,aO,Nat.zero_le _,rfl,ij (by simpa using V.out),T6⟩
   case round=>
    clear V T6;obtain⟨k,H,hk,rfl,d,q⟩:=hrel;obtain⟨v,ax⟩:∃ v,v=wr:=⟨_,rfl⟩;rw [<-ax]at d q ⊢;clear ax;by_cases R:k<c.length
    ·obtain⟨g',o',rfl,c0,c1,I,c3⟩:=HC.out k R;have E:=ip d.out.base;have P:=E _ _ c0;have d1:=E _ _ c1;have d2:=E _ _ I;have d3:=E _ _ c3;have k0:(0:Int)<=(k:Int):=by omega
     have k1:(k:Int)<c.length:=by omega
     obtain⟨⟨a1,a2⟩,⟨b1,b2⟩,⟨e1,e2⟩,⟨n1,n2⟩⟩:=Y.out c[k] (List.getElem_mem R);have aG:=ij (nB insB c k R);have B:Hid ((l1++wInt c.length++(c.take k).flatMap insB).length<=5000):=by
      unfold Hid;have h1:=i8 (n:=c.length) (by omega);have Q:=kR insB 40 (c.take k) (fun i h=>sy (Y.out i (List.mem_of_mem_take h)));simp only [List.length_append,List.length_take]at Q ⊢;have h3:40*min k c.length<=40*16:=Nat.mul_le_mul_left _ (by omega);have:=M.out;omega
     generalize al:l1++wInt c.length++(c.take k).flatMap insB=l2 at d B ⊢;have aE:=ij al;clear al;clear c0 c1 I c3 E;have hz:(c[k]:Ins)=⟨c[k].op,c[k].a,c[k].b,c[k].n⟩:=rfl;have HZ:Hid (insB c[k]=wInt c[k].op++(wInt c[k].a++(wInt c[k].b++numB (zig c[k].n)))):=rfl;clear hz;generalize c[k].op=x0 at*;generalize c[k].a=x1 at*;generalize c[k].b=x2 at*;generalize c[k].n=x3 at*;have y0:=i8 a2;have y1:=i8 b2;have y2:=i8 e2;go_wp2_with fail
     have r:=WrL.start d.out 65 #[.int .i64 x0,.int .i64 x1,.int .i64 x2,.int .i64 x3];have y:WrT w (v.alloc (.cells #[.int .i64 x0,.int .i64 x1,.int .i64 x2,.int .i64 x3] 65)) b u H:=q.out.grown (iq (ir _ _));clear P d1 d2 d3;generalize v.alloc (.cells #[.int .i64 x0,.int .i64 x1,.int .i64 x2,.int .i64 x3] 65)=u0 at r y ⊢;refine(jY W b x0 a1 a2 u0 H l2 r.wr (by have:=B.out;omega)).mono ?_;rintro e u1 ⟨⟨v1,rfl⟩,aP,am,S⟩;have x:=r.call am S;have C:=y.trans S;have m1:u1.cell? ⟨v.heap.size,1,none⟩=some (.int .i64 x1):=by simpa using x.cell 1
     have f:=ij x;have j:=ij C;clear x C r y am S d q;go_wp2_with fail
     have x:=f.out;have C:=j.out;clear f j m1;refine(jY W b x1 b1 b2 u1 aP (l2++wInt x0) x.wr (by have:=B.out;simp only [List.length_append];omega)).mono ?_;rintro e u2 ⟨⟨v2,rfl⟩,aQ,F,z⟩;have m:=x.call F z;have s:=C.trans z;have m2:u2.cell? ⟨v.heap.size,2,none⟩=some (.int .i64 x2):=by simpa using m.cell 2
     have f:=ij m;have j:=ij s;clear m s x C F z;go_wp2_with fail
     have m:=f.out;have s:=j.out;clear f j m2;refine(jY W b x2 e1 e2 u2 aQ (l2++wInt x0++wInt x1) m.wr (by have:=B.out;simp only [List.length_append];omega)).mono ?_;rintro e u3 ⟨⟨v3,rfl⟩,aR,an,T⟩;have A:=m.call an T;have D:=s.trans T;have m3:u3.cell? ⟨v.heap.size,3,none⟩=some (.int .i64 x3):=by simpa using A.cell 3
     have f:=ij A;have j:=ij D;clear A D m s an T;go_wp2_with fail
     have A:=f.out;have D:=j.out;clear f j m3;refine(zk W b x3 n1 n2 u3 aR (l2++wInt x0++wInt x1++wInt x2) A.wr (by have:=B.out;simp only [List.length_append];omega)).mono ?_;rintro e u4 ⟨⟨v4,rfl⟩,ad,ap,ar⟩;have T4:=ij (D.trans ar);have S4:Hid (WrS W u4 b ad (l1++wInt c.length++(c.take (k+1)).flatMap insB)):=by
      unfold Hid;rw [aG.out,HZ.out,<-List.append_assoc (l1++wInt c.length),aE.out];simpa [List.append_assoc]using ap
     clear A D ap ar;go_wp2_with fail
     go_roundw
     case rel=>exact⟨k+1,ad,by omega,by first | rfl | go_num,S4,T4⟩
     case measure=>simp [intOf];omega
    ·have k1:¬(k:Int)<c.length:=by omega
     have aj:k=c.length:=by omega
     have N:Hid (WrS W v b H (l++wInt p.length++(p.take (t+1)).flatMap codeB)):=by
      unfold Hid;rw [aH.out,<-List.append_assoc (l++wInt p.length),aD.out];have:=d.out;rw [aj,List.take_length]at this;simpa [codeB,List.append_assoc]using this
     clear aj;go_wp2_with fail
     go_roundw
     case rel=>exact⟨t+1,H,by omega,by first | rfl | go_num,N,q⟩
     case measure=>simp [intOf];omega
  ·have q1:¬(t:Int)<p.length:=by omega
   have av:t=p.length:=by omega
   have N:Hid (WrS W L b O (l++progB p)):=by
    unfold Hid progB;have:=d.out;rw [av,List.take_length]at this;simpa [List.append_assoc]using this
   clear av;go_wp2_with fail
   go_end0
   exact⟨⟨_,rfl⟩,O,N.out,q.out⟩
end
end Go.Proofs.YtklenjmfalljgabGreatDoor
