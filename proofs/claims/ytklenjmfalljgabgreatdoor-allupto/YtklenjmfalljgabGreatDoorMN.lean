/- The texts Wrt5 Wrt4 Wrt6 Wrt7 Wqd Hgz Hha Hhp Hgw Ala Nil Arg Arh Ari Arj Alb. -/
import Derived.Test.YtklenjmfalljgabGreatDoorMM
import Derived.Lib.SlBytesConst
import Derived.Test.YtklenjmfalljgabGreatDoorRows
import Derived.Deep.Slices
import Derived.Deep.DeepHandedRow
import Derived.Deep.DeepWitnessRowRef
import Derived.LaidMore
import Derived.Carry
import Derived.ProofKit
import Derived.OpenShut
import Derived.Lib.SmallJoins
import Derived.Deep.Strs
namespace Go.Proofs.YtklenjmfalljgabGreatDoor
set_option maxRecDepth 100000
set_option maxHeartbeats 8000000
section
open Go.RowKit
attribute [local go_sem] Go.World.cell?_alloc_some
theorem Ey(W:World)(b:Nat)(w:World)(bv:Value)(l:List Nat)(h:WrS W w b bv l)(hl:l.length<=900000)(al:∀ x∈l,x<256):
  Calls Tryz.prog 95 #[pt b]w(uI W w b bv(l++leB 4(lF l))):=by
 have HH:=hZ h;have ay:pt b= .pointer(some⟨b,0,none⟩):=rfl;rw [ay]at*;have c0:=h.cell;have cv:=h.row.str;have ao:=hZ(uT(bs l)w(by rw [sH];omega));rw [yu al]at ao;have hC:=Ap l al;generalize lF l=C at*;obtain⟨x1,x3,rfl⟩:=h.row.form;clear h al ay;go_enter Tryz.func95,Tryz.ntmps95
 go_wp2_with(go_at_call 135;refine ao.out.mono ?_;rintro e w2⟨rfl,aq⟩;have aw:=hZ(HH.out.grown(iH aq));have ax:=hZ((WrT.refl w b(.slice x1 l.length x3)).grown(iH aq));clear aq)
 clear c0 cv;go_loopw [10](fun i w'=>∃ (j:Nat)(bv':Value),j<=4/\i= .int .i64 j/\Hid(WrS W w' b bv'(l++(leB 4 C).take j))/\Hid(WrT w w' b(.slice x1 l.length x3)bv'))(fun i _=>4 - (intOf i).toNat)
 case atStart=>exact⟨0,_,by omega,rfl,hZ(by simpa using aw.out),ax⟩
 case round=>
  clear HH aw ax ao;obtain⟨j,aA,hj,rfl,HS,HT⟩:=hrel;obtain⟨w5,an⟩:∃ w5,w5=wr:=⟨_,rfl⟩;rw [<-an]at HS HT ⊢;clear an;have az:j=0\/j=1\/j=2\/j=3\/j=4:=by omega
  rcases az with rfl | rfl | rfl | rfl | rfl
  ·have HX:Hid((leB 4 C).take 1=(leB 4 C).take 0++ [C % 256]):=by unfold Hid;simp [leB,Nat.div_div_eq_div_mul]
   have qw:IntKind.i64.wrap 0=0:=by decide
   have qx:IntKind.u8.wrap((C:Int))=((C % 256:Nat):Int):=by rw [IntKind.wrap_u8'];omega
   have ap:(l++(leB 4 C).take 0).length<=1000000:=by simp;omega
   generalize C % 256=y at*;generalize hL:l++(leB 4 C).take 0=L at*;have HL:=hZ hL;clear hL;obtain⟨y1,y3,rfl⟩:=HS.out.row.form;have cq:w5.cell?⟨b,0,none⟩=some(.slice y1 L.length y3):=HS.out.cell;go_wp2_with fail
   refine iu(fun u=>u.cell?⟨b,0,none⟩=some(.slice y1 L.length y3))14(by kernel_rfl)(by kernel_rfl) ?_ ?_
   ·simp [go_sem,cq]
   intro ak;refine hY(i:=0)(v:= ?vv0_1)rfl(by kernel_rfl)(fun _ _ _ h=>h)(Or.inl⟨by rfl, ?hy0_1⟩)(by assumption) ?rest0_1
   case hy0_1=>(intro u hu;go_simp;try with_reducible rfl)
   simp only [Act.put,List.setIfInBounds_toArray];refine hY(i:=1)(v:= ?vv1_2)rfl(by kernel_rfl)(fun _ _ _ h=>h)(Or.inl⟨by rfl, ?hy1_2⟩)(by assumption) ?rest1_2
   case hy1_2=>(intro u hu;go_simp;try with_reducible rfl)
   simp only [Act.put];refine hY(i:=2)(v:= ?vv2_3)rfl(by kernel_rfl)(fun _ _ _ h=>h)(Or.inl⟨by rfl, ?hy2_3⟩)(by assumption) ?rest2_3
   case hy2_3=>(intro u hu;go_simp;try with_reducible rfl)
   simp only [Act.put];refine hY(i:=3)(v:= ?vv3_4)rfl(by kernel_rfl)(fun _ _ _ h=>h)(Or.inl⟨by rfl, ?hy3_4⟩)(by assumption) ?rest3_4
   case hy3_4=>(intro u hu;go_simp;try with_reducible rfl)
   simp only [Act.put];refine hY(i:=4)(v:= ?vv4_5)rfl(by kernel_rfl)(fun _ _ _ h=>h)(Or.inl⟨by rfl, ?hy4_5⟩)(by assumption) ?rest4_5
   case hy4_5=>(intro u hu;go_simp;try with_reducible rfl)
   simp only [Act.put];refine hY(i:=5)(v:= ?vv5_6)rfl(by kernel_rfl)(fun _ _ _ h=>h)(Or.inl⟨by rfl, ?hy5_6⟩)(by assumption) ?rest5_6
   case hy5_6=>(intro u hu;go_simp;try with_reducible rfl)
   simp only [Act.put];refine hY(i:=6)(v:= ?vv6_7)rfl(by kernel_rfl)(fun _ _ _ h=>h)(Or.inl⟨by rfl, ?hy6_7⟩)(by assumption) ?rest6_7
   case hy6_7=>(intro u hu;go_simp;try with_reducible rfl)
   simp only [Act.put];refine hY(i:=7)(v:= ?vv7_8)rfl(by kernel_rfl)(fun _ _ _ h=>h)(Or.inl⟨by rfl, ?hy7_8⟩)(by assumption) ?rest7_8
   case hy7_8=>(intro u hu;go_simp;try with_reducible rfl)
   simp only [Act.put];refine hY(i:=8)(v:= ?vv8_9)rfl(by kernel_rfl)(fun _ _ _ h=>h)(Or.inl⟨by rfl, ?hy8_9⟩)(by assumption) ?rest8_9
   case hy8_9=>(intro u hu;go_simp;try with_reducible rfl)
   simp only [Act.put];refine hY(i:=9)(v:= ?vv9_10)rfl(by kernel_rfl)(fun _ _ _ h=>h)(Or.inl⟨by rfl, ?hy9_10⟩)(by assumption) ?rest9_10
   case hy9_10=>(intro u hu;go_simp;try with_reducible rfl)
   simp only [Act.put];have ai:Hid(WrS W w5.drew b(.slice y1 L.length y3)L):=HS.out.grown(ir(il _ _));have am:Hid(WrT w w5.drew b(.slice x1 l.length x3)(.slice y1 L.length y3)):=HT.out.grown(ir(il _ _));have av:W.heap.size<=w5.heap.size:=HS.out.base.size;refine ip(i:=10)rfl(by kernel_rfl)(by kernel_rfl)(by rfl) ?_;intro au af;have ae:=hZ af;clear af;go_simp;refine ae.out _ _(ie(ij(il _ _))_ _ ai.out.cell) ?_;clear ae;try simp only [Act.put,List.setIfInBounds_toArray]
   refine ip(i:=11)rfl(by kernel_rfl)(by kernel_rfl)(by rfl) ?_;intro ar ad;have ac:=hZ ad;clear ad;refine mQ _(.tmp 17)(.tmp 23)(by rfl)W.heap.size(.slice y1 L.length y3)L.length(u8s L)(by rfl)ai.out.row.alloc w5.heap.size(.int .u8(y:Int))(by rfl)(heap_alloc_new w5.drew _)rfl(by omega)(by simp;omega)(w5.heap.size+1)(by simp) ?_;intro g6 ah w6 ab aa ag aj;obtain⟨p1,p2,p3,p4⟩:=ai.out.push ab aa ag;have P1:Hid(WrS W(w6.setCell⟨b,0,none⟩(.slice(some⟨g6,0,none⟩)(L.length+1)ah))b(.slice(some⟨g6,0,none⟩)(L.length+1)ah)(l++(leB 4 C).take 1)):=by
    unfold Hid;rw [HX.out,<-List.append_assoc,HL.out];exact p1
   have P4:=hZ(am.out.trans p4);clear p1 p4 ab aa ag aj;refine ac.out _ _ p2 ?_;clear ac;try simp only [Act.put,List.setIfInBounds_toArray]
   refine hY(i:=12)(v:= ?vv12_0b)rfl(by kernel_rfl)(fun _ _ _ h=>h)(Or.inl⟨by rfl, ?hy12_0b⟩)(by assumption) ?rest12_0b
   case hy12_0b=>(intro u hu;go_simp;try with_reducible rfl)
   simp only [Act.put];refine hY(i:=13)(v:= ?vv13_0b)rfl(by kernel_rfl)(fun _ _ _ h=>h)(Or.inl⟨by rfl, ?hy13_0b⟩)(by assumption) ?rest13_0b
   case hy13_0b=>(intro u hu;go_simp;try with_reducible rfl)
   simp only [Act.put];refine iE rfl(by kernel_rfl)(by kernel_rfl)(by rfl) ?_;go_simp;go_wp2
   go_roundw
   case rel=>exact⟨1,_,by omega,by first | rfl | go_num,P1,P4⟩
   case measure=>simp [intOf]
  ·have HX:Hid((leB 4 C).take 2=(leB 4 C).take 1++ [C / 256 % 256]):=by unfold Hid;simp [leB,Nat.div_div_eq_div_mul]
   have qw:IntKind.i64.wrap 8=8:=by decide
   have qx:IntKind.u8.wrap((C:Int)/ 256)=((C / 256 % 256:Nat):Int):=by rw [IntKind.wrap_u8'];omega
   have ap:(l++(leB 4 C).take 1).length<=1000000:=by simp [pw];omega
   generalize C / 256 % 256=y at*;generalize hL:l++(leB 4 C).take 1=L at*;have HL:=hZ hL;clear hL;obtain⟨y1,y3,rfl⟩:=HS.out.row.form;have cq:w5.cell?⟨b,0,none⟩=some(.slice y1 L.length y3):=HS.out.cell;go_wp2_with fail
   refine iu(fun u=>u.cell?⟨b,0,none⟩=some(.slice y1 L.length y3))14(by kernel_rfl)(by kernel_rfl) ?_ ?_
   ·simp [go_sem,cq]
   intro ak;refine hY(i:=0)(v:= ?vv0_11)rfl(by kernel_rfl)(fun _ _ _ h=>h)(Or.inl⟨by rfl, ?hy0_11⟩)(by assumption) ?rest0_11
   case hy0_11=>(intro u hu;go_simp;try with_reducible rfl)
   simp only [Act.put,List.setIfInBounds_toArray];refine hY(i:=1)(v:= ?vv1_12)rfl(by kernel_rfl)(fun _ _ _ h=>h)(Or.inl⟨by rfl, ?hy1_12⟩)(by assumption) ?rest1_12
   case hy1_12=>(intro u hu;go_simp;try with_reducible rfl)
   simp only [Act.put];refine hY(i:=2)(v:= ?vv2_13)rfl(by kernel_rfl)(fun _ _ _ h=>h)(Or.inl⟨by rfl, ?hy2_13⟩)(by assumption) ?rest2_13
   case hy2_13=>(intro u hu;go_simp;try with_reducible rfl)
   simp only [Act.put];refine hY(i:=3)(v:= ?vv3_14)rfl(by kernel_rfl)(fun _ _ _ h=>h)(Or.inl⟨by rfl, ?hy3_14⟩)(by assumption) ?rest3_14
   case hy3_14=>(intro u hu;go_simp;try with_reducible rfl)
   simp only [Act.put];refine hY(i:=4)(v:= ?vv4_15)rfl(by kernel_rfl)(fun _ _ _ h=>h)(Or.inl⟨by rfl, ?hy4_15⟩)(by assumption) ?rest4_15
   case hy4_15=>(intro u hu;go_simp;try with_reducible rfl)
   simp only [Act.put];refine hY(i:=5)(v:= ?vv5_16)rfl(by kernel_rfl)(fun _ _ _ h=>h)(Or.inl⟨by rfl, ?hy5_16⟩)(by assumption) ?rest5_16
   case hy5_16=>(intro u hu;go_simp;try with_reducible rfl)
   simp only [Act.put];refine hY(i:=6)(v:= ?vv6_17)rfl(by kernel_rfl)(fun _ _ _ h=>h)(Or.inl⟨by rfl, ?hy6_17⟩)(by assumption) ?rest6_17
   case hy6_17=>(intro u hu;go_simp;try with_reducible rfl)
   simp only [Act.put];refine hY(i:=7)(v:= ?vv7_18)rfl(by kernel_rfl)(fun _ _ _ h=>h)(Or.inl⟨by rfl, ?hy7_18⟩)(by assumption) ?rest7_18
   case hy7_18=>(intro u hu;go_simp;try with_reducible rfl)
   simp only [Act.put];refine hY(i:=8)(v:= ?vv8_19)rfl(by kernel_rfl)(fun _ _ _ h=>h)(Or.inl⟨by rfl, ?hy8_19⟩)(by assumption) ?rest8_19
   case hy8_19=>(intro u hu;go_simp;try with_reducible rfl)
   simp only [Act.put];refine hY(i:=9)(v:= ?vv9_20)rfl(by kernel_rfl)(fun _ _ _ h=>h)(Or.inl⟨by rfl, ?hy9_20⟩)(by assumption) ?rest9_20
   case hy9_20=>(intro u hu;go_simp;try with_reducible rfl)
   simp only [Act.put];have ai:Hid(WrS W w5.drew b(.slice y1 L.length y3)L):=HS.out.grown(ir(il _ _));have am:Hid(WrT w w5.drew b(.slice x1 l.length x3)(.slice y1 L.length y3)):=HT.out.grown(ir(il _ _));have av:W.heap.size<=w5.heap.size:=HS.out.base.size;refine ip(i:=10)rfl(by kernel_rfl)(by kernel_rfl)(by rfl) ?_;intro au af;have ae:=hZ af;clear af;go_simp;refine ae.out _ _(ie(ij(il _ _))_ _ ai.out.cell) ?_;clear ae;try simp only [Act.put,List.setIfInBounds_toArray]
   refine ip(i:=11)rfl(by kernel_rfl)(by kernel_rfl)(by rfl) ?_;intro ar ad;have ac:=hZ ad;clear ad;refine mQ _(.tmp 17)(.tmp 23)(by rfl)W.heap.size(.slice y1 L.length y3)L.length(u8s L)(by rfl)ai.out.row.alloc w5.heap.size(.int .u8(y:Int))(by rfl)(heap_alloc_new w5.drew _)rfl(by omega)(by simp;omega)(w5.heap.size+1)(by simp) ?_;intro g6 ah w6 ab aa ag aj;obtain⟨p1,p2,p3,p4⟩:=ai.out.push ab aa ag;have P1:Hid(WrS W(w6.setCell⟨b,0,none⟩(.slice(some⟨g6,0,none⟩)(L.length+1)ah))b(.slice(some⟨g6,0,none⟩)(L.length+1)ah)(l++(leB 4 C).take 2)):=by
    unfold Hid;rw [HX.out,<-List.append_assoc,HL.out];exact p1
   have P4:=hZ(am.out.trans p4);clear p1 p4 ab aa ag aj;refine ac.out _ _ p2 ?_;clear ac;try simp only [Act.put,List.setIfInBounds_toArray]
   refine hY(i:=12)(v:= ?vv12_1b)rfl(by kernel_rfl)(fun _ _ _ h=>h)(Or.inl⟨by rfl, ?hy12_1b⟩)(by assumption) ?rest12_1b
   case hy12_1b=>(intro u hu;go_simp;try with_reducible rfl)
   simp only [Act.put];refine hY(i:=13)(v:= ?vv13_1b)rfl(by kernel_rfl)(fun _ _ _ h=>h)(Or.inl⟨by rfl, ?hy13_1b⟩)(by assumption) ?rest13_1b
   case hy13_1b=>(intro u hu;go_simp;try with_reducible rfl)
   simp only [Act.put];refine iE rfl(by kernel_rfl)(by kernel_rfl)(by rfl) ?_;go_simp;go_wp2
   go_roundw
   case rel=>exact⟨2,_,by omega,by first | rfl | go_num,P1,P4⟩
   case measure=>simp [intOf]
  ·have HX:Hid((leB 4 C).take 3=(leB 4 C).take 2++ [C / 65536 % 256]):=by unfold Hid;simp [leB,Nat.div_div_eq_div_mul]
   have qw:IntKind.i64.wrap 16=16:=by decide
   have qx:IntKind.u8.wrap((C:Int)/ 65536)=((C / 65536 % 256:Nat):Int):=by rw [IntKind.wrap_u8'];omega
   have ap:(l++(leB 4 C).take 2).length<=1000000:=by simp [pw];omega
   generalize C / 65536 % 256=y at*;generalize hL:l++(leB 4 C).take 2=L at*;have HL:=hZ hL;clear hL;obtain⟨y1,y3,rfl⟩:=HS.out.row.form;have cq:w5.cell?⟨b,0,none⟩=some(.slice y1 L.length y3):=HS.out.cell;go_wp2_with fail
   refine iu(fun u=>u.cell?⟨b,0,none⟩=some(.slice y1 L.length y3))14(by kernel_rfl)(by kernel_rfl) ?_ ?_
   ·simp [go_sem,cq]
   intro ak;refine hY(i:=0)(v:= ?vv0_21)rfl(by kernel_rfl)(fun _ _ _ h=>h)(Or.inl⟨by rfl, ?hy0_21⟩)(by assumption) ?rest0_21
   case hy0_21=>(intro u hu;go_simp;try with_reducible rfl)
   simp only [Act.put,List.setIfInBounds_toArray];refine hY(i:=1)(v:= ?vv1_22)rfl(by kernel_rfl)(fun _ _ _ h=>h)(Or.inl⟨by rfl, ?hy1_22⟩)(by assumption) ?rest1_22
   case hy1_22=>(intro u hu;go_simp;try with_reducible rfl)
   simp only [Act.put];refine hY(i:=2)(v:= ?vv2_23)rfl(by kernel_rfl)(fun _ _ _ h=>h)(Or.inl⟨by rfl, ?hy2_23⟩)(by assumption) ?rest2_23
   case hy2_23=>(intro u hu;go_simp;try with_reducible rfl)
   simp only [Act.put];refine hY(i:=3)(v:= ?vv3_24)rfl(by kernel_rfl)(fun _ _ _ h=>h)(Or.inl⟨by rfl, ?hy3_24⟩)(by assumption) ?rest3_24
   case hy3_24=>(intro u hu;go_simp;try with_reducible rfl)
   simp only [Act.put];refine hY(i:=4)(v:= ?vv4_25)rfl(by kernel_rfl)(fun _ _ _ h=>h)(Or.inl⟨by rfl, ?hy4_25⟩)(by assumption) ?rest4_25
   case hy4_25=>(intro u hu;go_simp;try with_reducible rfl)
   simp only [Act.put];refine hY(i:=5)(v:= ?vv5_26)rfl(by kernel_rfl)(fun _ _ _ h=>h)(Or.inl⟨by rfl, ?hy5_26⟩)(by assumption) ?rest5_26
   case hy5_26=>(intro u hu;go_simp;try with_reducible rfl)
   simp only [Act.put];refine hY(i:=6)(v:= ?vv6_27)rfl(by kernel_rfl)(fun _ _ _ h=>h)(Or.inl⟨by rfl, ?hy6_27⟩)(by assumption) ?rest6_27
   case hy6_27=>(intro u hu;go_simp;try with_reducible rfl)
   simp only [Act.put];refine hY(i:=7)(v:= ?vv7_28)rfl(by kernel_rfl)(fun _ _ _ h=>h)(Or.inl⟨by rfl, ?hy7_28⟩)(by assumption) ?rest7_28
   case hy7_28=>(intro u hu;go_simp;try with_reducible rfl)
   simp only [Act.put];refine hY(i:=8)(v:= ?vv8_29)rfl(by kernel_rfl)(fun _ _ _ h=>h)(Or.inl⟨by rfl, ?hy8_29⟩)(by assumption) ?rest8_29
   case hy8_29=>(intro u hu;go_simp;try with_reducible rfl)
   simp only [Act.put];refine hY(i:=9)(v:= ?vv9_30)rfl(by kernel_rfl)(fun _ _ _ h=>h)(Or.inl⟨by rfl, ?hy9_30⟩)(by assumption) ?rest9_30
   case hy9_30=>(intro u hu;go_simp;try with_reducible rfl)
   simp only [Act.put];have ai:Hid(WrS W w5.drew b(.slice y1 L.length y3)L):=HS.out.grown(ir(il _ _));have am:Hid(WrT w w5.drew b(.slice x1 l.length x3)(.slice y1 L.length y3)):=HT.out.grown(ir(il _ _));have av:W.heap.size<=w5.heap.size:=HS.out.base.size;refine ip(i:=10)rfl(by kernel_rfl)(by kernel_rfl)(by rfl) ?_;intro au af;have ae:=hZ af;clear af;go_simp;refine ae.out _ _(ie(ij(il _ _))_ _ ai.out.cell) ?_;clear ae;try simp only [Act.put,List.setIfInBounds_toArray]
   refine ip(i:=11)rfl(by kernel_rfl)(by kernel_rfl)(by rfl) ?_;intro ar ad;have ac:=hZ ad;clear ad;refine mQ _(.tmp 17)(.tmp 23)(by rfl)W.heap.size(.slice y1 L.length y3)L.length(u8s L)(by rfl)ai.out.row.alloc w5.heap.size(.int .u8(y:Int))(by rfl)(heap_alloc_new w5.drew _)rfl(by omega)(by simp;omega)(w5.heap.size+1)(by simp) ?_;intro g6 ah w6 ab aa ag aj;obtain⟨p1,p2,p3,p4⟩:=ai.out.push ab aa ag;have P1:Hid(WrS W(w6.setCell⟨b,0,none⟩(.slice(some⟨g6,0,none⟩)(L.length+1)ah))b(.slice(some⟨g6,0,none⟩)(L.length+1)ah)(l++(leB 4 C).take 3)):=by
    unfold Hid;rw [HX.out,<-List.append_assoc,HL.out];exact p1
   have P4:=hZ(am.out.trans p4);clear p1 p4 ab aa ag aj;refine ac.out _ _ p2 ?_;clear ac;try simp only [Act.put,List.setIfInBounds_toArray]
   refine hY(i:=12)(v:= ?vv12_2b)rfl(by kernel_rfl)(fun _ _ _ h=>h)(Or.inl⟨by rfl, ?hy12_2b⟩)(by assumption) ?rest12_2b
   case hy12_2b=>(intro u hu;go_simp;try with_reducible rfl)
   simp only [Act.put];refine hY(i:=13)(v:= ?vv13_2b)rfl(by kernel_rfl)(fun _ _ _ h=>h)(Or.inl⟨by rfl, ?hy13_2b⟩)(by assumption) ?rest13_2b
   case hy13_2b=>(intro u hu;go_simp;try with_reducible rfl)
   simp only [Act.put];refine iE rfl(by kernel_rfl)(by kernel_rfl)(by rfl) ?_;go_simp;go_wp2
   go_roundw
   case rel=>exact⟨3,_,by omega,by first | rfl | go_num,P1,P4⟩
   case measure=>simp [intOf]
  ·have HX:Hid((leB 4 C).take 4=(leB 4 C).take 3++ [C / 16777216 % 256]):=by unfold Hid;simp [leB,Nat.div_div_eq_div_mul]
   have qw:IntKind.i64.wrap 24=24:=by decide
   have qx:IntKind.u8.wrap((C:Int)/ 16777216)=((C / 16777216 % 256:Nat):Int):=by rw [IntKind.wrap_u8'];omega
   have ap:(l++(leB 4 C).take 3).length<=1000000:=by simp [pw];omega
   generalize C / 16777216 % 256=y at*;generalize hL:l++(leB 4 C).take 3=L at*;have HL:=hZ hL;clear hL;obtain⟨y1,y3,rfl⟩:=HS.out.row.form;have cq:w5.cell?⟨b,0,none⟩=some(.slice y1 L.length y3):=HS.out.cell;go_wp2_with fail
   refine iu(fun u=>u.cell?⟨b,0,none⟩=some(.slice y1 L.length y3))14(by kernel_rfl)(by kernel_rfl) ?_ ?_
   ·simp [go_sem,cq]
   intro ak;refine hY(i:=0)(v:= ?vv0_31)rfl(by kernel_rfl)(fun _ _ _ h=>h)(Or.inl⟨by rfl, ?hy0_31⟩)(by assumption) ?rest0_31
   case hy0_31=>(intro u hu;go_simp;try with_reducible rfl)
   simp only [Act.put,List.setIfInBounds_toArray];refine hY(i:=1)(v:= ?vv1_32)rfl(by kernel_rfl)(fun _ _ _ h=>h)(Or.inl⟨by rfl, ?hy1_32⟩)(by assumption) ?rest1_32
   case hy1_32=>(intro u hu;go_simp;try with_reducible rfl)
   simp only [Act.put];refine hY(i:=2)(v:= ?vv2_33)rfl(by kernel_rfl)(fun _ _ _ h=>h)(Or.inl⟨by rfl, ?hy2_33⟩)(by assumption) ?rest2_33
   case hy2_33=>(intro u hu;go_simp;try with_reducible rfl)
   simp only [Act.put];refine hY(i:=3)(v:= ?vv3_34)rfl(by kernel_rfl)(fun _ _ _ h=>h)(Or.inl⟨by rfl, ?hy3_34⟩)(by assumption) ?rest3_34
   case hy3_34=>(intro u hu;go_simp;try with_reducible rfl)
   simp only [Act.put];refine hY(i:=4)(v:= ?vv4_35)rfl(by kernel_rfl)(fun _ _ _ h=>h)(Or.inl⟨by rfl, ?hy4_35⟩)(by assumption) ?rest4_35
   case hy4_35=>(intro u hu;go_simp;try with_reducible rfl)
   simp only [Act.put];refine hY(i:=5)(v:= ?vv5_36)rfl(by kernel_rfl)(fun _ _ _ h=>h)(Or.inl⟨by rfl, ?hy5_36⟩)(by assumption) ?rest5_36
   case hy5_36=>(intro u hu;go_simp;try with_reducible rfl)
   simp only [Act.put];refine hY(i:=6)(v:= ?vv6_37)rfl(by kernel_rfl)(fun _ _ _ h=>h)(Or.inl⟨by rfl, ?hy6_37⟩)(by assumption) ?rest6_37
   case hy6_37=>(intro u hu;go_simp;try with_reducible rfl)
   simp only [Act.put];refine hY(i:=7)(v:= ?vv7_38)rfl(by kernel_rfl)(fun _ _ _ h=>h)(Or.inl⟨by rfl, ?hy7_38⟩)(by assumption) ?rest7_38
   case hy7_38=>(intro u hu;go_simp;try with_reducible rfl)
   simp only [Act.put];refine hY(i:=8)(v:= ?vv8_39)rfl(by kernel_rfl)(fun _ _ _ h=>h)(Or.inl⟨by rfl, ?hy8_39⟩)(by assumption) ?rest8_39
   case hy8_39=>(intro u hu;go_simp;try with_reducible rfl)
   simp only [Act.put];refine hY(i:=9)(v:= ?vv9_40)rfl(by kernel_rfl)(fun _ _ _ h=>h)(Or.inl⟨by rfl, ?hy9_40⟩)(by assumption) ?rest9_40
   case hy9_40=>(intro u hu;go_simp;try with_reducible rfl)
   simp only [Act.put];have ai:Hid(WrS W w5.drew b(.slice y1 L.length y3)L):=HS.out.grown(ir(il _ _));have am:Hid(WrT w w5.drew b(.slice x1 l.length x3)(.slice y1 L.length y3)):=HT.out.grown(ir(il _ _));have av:W.heap.size<=w5.heap.size:=HS.out.base.size;refine ip(i:=10)rfl(by kernel_rfl)(by kernel_rfl)(by rfl) ?_;intro au af;have ae:=hZ af;clear af;go_simp;refine ae.out _ _(ie(ij(il _ _))_ _ ai.out.cell) ?_;clear ae;try simp only [Act.put,List.setIfInBounds_toArray]
   refine ip(i:=11)rfl(by kernel_rfl)(by kernel_rfl)(by rfl) ?_;intro ar ad;have ac:=hZ ad;clear ad;refine mQ _(.tmp 17)(.tmp 23)(by rfl)W.heap.size(.slice y1 L.length y3)L.length(u8s L)(by rfl)ai.out.row.alloc w5.heap.size(.int .u8(y:Int))(by rfl)(heap_alloc_new w5.drew _)rfl(by omega)(by simp;omega)(w5.heap.size+1)(by simp) ?_;intro g6 ah w6 ab aa ag aj;obtain⟨p1,p2,p3,p4⟩:=ai.out.push ab aa ag;have P1:Hid(WrS W(w6.setCell⟨b,0,none⟩(.slice(some⟨g6,0,none⟩)(L.length+1)ah))b(.slice(some⟨g6,0,none⟩)(L.length+1)ah)(l++(leB 4 C).take 4)):=by
    unfold Hid;rw [HX.out,<-List.append_assoc,HL.out];exact p1
   have P4:=hZ(am.out.trans p4);clear p1 p4 ab aa ag aj;refine ac.out _ _ p2 ?_;clear ac;try simp only [Act.put,List.setIfInBounds_toArray]
   refine hY(i:=12)(v:= ?vv12_3b)rfl(by kernel_rfl)(fun _ _ _ h=>h)(Or.inl⟨by rfl, ?hy12_3b⟩)(by assumption) ?rest12_3b
   case hy12_3b=>(intro u hu;go_simp;try with_reducible rfl)
   simp only [Act.put];refine hY(i:=13)(v:= ?vv13_3b)rfl(by kernel_rfl)(fun _ _ _ h=>h)(Or.inl⟨by rfl, ?hy13_3b⟩)(by assumption) ?rest13_3b
   case hy13_3b=>(intro u hu;go_simp;try with_reducible rfl)
   simp only [Act.put];refine iE rfl(by kernel_rfl)(by kernel_rfl)(by rfl) ?_;go_simp;go_wp2
   go_roundw
   case rel=>exact⟨4,_,by omega,by first | rfl | go_num,P1,P4⟩
   case measure=>simp [intOf]
  ·go_wp2_with fail
   go_end0
   refine⟨⟨_,rfl⟩,aA, ?_,HT.out⟩;have:=HS.out;rwa [List.take_of_length_le(by rw [pw];exact Nat.le_refl _)]at this
end
section
open Go.RowKit
attribute [local go_sem] Go.World.cell?_alloc_some
theorem o7 {p:List(List Ins)}(h:iR p=true):p.length<=4/\∀ c∈p,c.length<=16:=by
 simp only [iR,Bool.and_eq_true,decide_eq_true_eq,List.all_eq_true]at h;refine⟨h.2.1,fun c hc=> ?_⟩;have:=h.2.2 c hc;simp only [kW,Bool.and_eq_true,decide_eq_true_eq]at this;exact this.1
theorem nY {α:Type}(f:α->List Nat)(B:Nat)(q:List α)(h:∀ x∈q,(f x).length<=B):(q.flatMap f).length<=B*q.length:=by
 induction q with
 | nil=>simp
 | cons x q ih=>
  have h1:=h x(by simp);have h2:=ih(fun y hy=>h y(by simp [hy]));rw [List.flatMap_cons,List.length_append,List.length_cons,Nat.mul_succ];omega
theorem rF {α:Type}(f:α->List Nat)(q:List α)(k:Nat)(h:k<q.length):(q.take(k+1)).flatMap f=(q.take k).flatMap f++f q[k]:=by
 rw [List.take_succ_eq_append_getElem h,List.flatMap_append];simp
theorem jH {n:Int}(h:n<=9223372036854775807):(js n).length<=10:=mR(by omega)
theorem xU {i:Ins}(h:kP i):(mz i).length<=40:=by
 obtain⟨⟨a1,a2⟩,⟨b1,b2⟩,⟨c1,c2⟩,⟨d1,d2⟩⟩:=h;unfold mz;have h1:=jH a2;have h2:=jH b2;have h3:=jH c2;have h4:(jT(zig i.n)).length<=10:=mR(by unfold zig;split<;>omega);simp only [List.length_append];omega
theorem uM {c:List Ins}(h:c.length<=16)(hi:∀ i∈c,kP i):(jQ c).length<=650:=by
 unfold jQ;have h1:=jH(n:=c.length)(by omega);have h2:=nY mz 40 c(fun i h=>xU(hi i h));simp only [List.length_append];omega
theorem A5 {p:List(List Ins)}(hv:iR p=true)(hi:∀ c∈p,∀ i∈c,kP i):(mf p).length<=2610:=by
 obtain⟨h4,aa⟩:=o7 hv;unfold mf;have h1:=jH(n:=p.length)(by omega);have h2:=nY jQ 650 p(fun c h=>uM(aa c h)(hi c h));simp only [List.length_append];omega
theorem Bv(W:World)(b:Nat)(p:List(List Ins))(pv:Value)(w:World)(bv:Value)(l:List Nat)(h:WrS W w b bv l)(hl:l.length<=900)(hP:ProgAt W pv p)(hv:iR p=true)(hi:∀ c∈p,∀ i∈c,kP i):
  Calls Tryz.prog 92 #[pt b,pv]w(uI W w b bv(l++mf p)):=by
 obtain⟨ao,ah,rfl,aB⟩:=hP;have HH:=hZ h;have HP:=hZ aB;have aP:pt b= .pointer(some⟨b,0,none⟩):=rfl;rw [aP]at*;clear h aB;go_enter Tryz.func92,Tryz.ntmps92
 go_wp2_with fail
 have L0:=WrL.start HH.out 37 #[.slice ao p.length ah];have T0:WrT w(w.alloc(.cells #[.slice ao p.length ah]37))b bv bv:=(WrT.refl _ _ _).grown(ij(il _ _));generalize w.alloc(.cells #[.slice ao p.length ah]37)=w1 at L0 T0 ⊢;have hp4:p.length<=4:=(o7 hv).1;refine(mp W b p.length(by omega)(by omega)w1 bv l L0.wr(by omega)).mono ?_;rintro e w2⟨⟨v2,rfl⟩,aO,ag,ac⟩;have L2:=L0.call ag ac;have T2:=T0.trans ac;have c2:w2.cell?⟨w.heap.size,0,none⟩=some(.slice ao p.length ah):=by simpa using L2.cell 0
 have HL:=hZ L2.wr;have HT:=hZ T2;have HV:=hZ(o7 hv).2;have HI:=hZ hi;clear L2 T2 L0 T0 ag ac hv hi;go_wp2_with fail
 clear c2;go_loopw [16](fun i w'=>∃ (t:Nat)(bv':Value),t<=p.length/\i= .int .i64 t/\Hid(WrS W w' b bv'(l++js p.length++(p.take t).flatMap jQ))/\Hid(WrT w w' b bv bv'))(fun i _=>p.length - (intOf i).toNat)
 case atStart=>exact⟨0,aO,Nat.zero_le _,rfl,hZ(by simpa using HL.out),HT⟩
 case round=>
  clear HL HT;obtain⟨t,al,ht,rfl,HW,aa⟩:=hrel;obtain⟨w5,aw⟩:∃ w5,w5=wr:=⟨_,rfl⟩;rw [<-aw]at HW aa ⊢;clear aw;by_cases aj:t<p.length
  ·obtain⟨g,o,rfl,rv,c0,ae⟩:=HP.out t aj;obtain⟨ca,cc,rfl,hC⟩:=ae;have d0:=ie HW.out.base _ _ c0;have HC:=hZ hC;have q0:(0:Int)<=(t:Int):=by omega
   have q1:(t:Int)<p.length:=by omega
   have hc16:p[t].length<=16:=HV.out _(List.getElem_mem aj);have aF:=hZ(HI.out p[t](List.getElem_mem aj));have aL:=hZ(rF jQ p t aj);have ab:Hid((l++js p.length++(p.take t).flatMap jQ).length<=4000):=by
    unfold Hid;have h1:=jH(n:=p.length)(by omega);have h2:=nY jQ 650(p.take t)(fun c h=>uM(HV.out c(List.mem_of_mem_take h))(HI.out c(List.mem_of_mem_take h)));simp only [List.length_append,List.length_take]at h2 ⊢;have h3:650*min t p.length<=650*4:=Nat.mul_le_mul_left _(by omega);omega
   generalize aq:l++js p.length++(p.take t).flatMap jQ=l1 at HW ab ⊢;have aN:=hZ aq;clear aq;generalize p[t]=c at*;clear c0 hC;go_wp2_with fail
   refine(mp W b c.length(by omega)(by omega)w5 al l1 HW.out(by have:=ab.out;omega)).mono ?_;rintro e w6⟨⟨v6,rfl⟩,aJ,ay,aD⟩;have H6:=hZ ay;have T6:=hZ(aa.out.trans aD);clear ay aD HW aa d0;go_wp2_with fail
   go_loopw [26](fun i w'=>∃ (k:Nat)(bv':Value),k<=c.length/\i= .int .i64 k/\Hid(WrS W w' b bv'(l1++js c.length++(c.take k).flatMap mz))/\Hid(WrT w w' b bv bv'))(fun i _=>c.length - (intOf i).toNat)
   case atStart=>exact⟨0,aJ,Nat.zero_le _,rfl,hZ(by simpa using H6.out),T6⟩
   case round=>
    clear H6 T6;obtain⟨k,ai,hk,rfl,HW,aa⟩:=hrel;obtain⟨w7,ar⟩:∃ w7,w7=wr:=⟨_,rfl⟩;rw [<-ar]at HW aa ⊢;clear ar;by_cases ak:k<c.length
    ·obtain⟨g',o',rfl,c0,c1,c2,c3⟩:=HC.out k ak;have ad:=ie HW.out.base;have d0:=ad _ _ c0;have d1:=ad _ _ c1;have d2:=ad _ _ c2;have d3:=ad _ _ c3;have k0:(0:Int)<=(k:Int):=by omega
     have k1:(k:Int)<c.length:=by omega
     obtain⟨⟨a1,a2⟩,⟨b1,b2⟩,⟨e1,e2⟩,⟨n1,n2⟩⟩:=aF.out c[k](List.getElem_mem ak);have aG:=hZ(rF mz c k ak);have af:Hid((l1++js c.length++(c.take k).flatMap mz).length<=5000):=by
      unfold Hid;have h1:=jH(n:=c.length)(by omega);have h2:=nY mz 40(c.take k)(fun i h=>xU(aF.out i(List.mem_of_mem_take h)));simp only [List.length_append,List.length_take]at h2 ⊢;have h3:40*min k c.length<=40*16:=Nat.mul_le_mul_left _(by omega);have:=ab.out;omega
     generalize av:l1++js c.length++(c.take k).flatMap mz=l2 at HW af ⊢;have aM:=hZ av;clear av;clear c0 c1 c2 c3 ad;have hz:(c[k]:Ins)=⟨c[k].op,c[k].a,c[k].b,c[k].n⟩:=rfl;have HZ:Hid(mz c[k]=js c[k].op++(js c[k].a++(js c[k].b++jT(zig c[k].n)))):=rfl;clear hz;generalize c[k].op=x0 at*;generalize c[k].a=x1 at*;generalize c[k].b=x2 at*;generalize c[k].n=x3 at*;have y0:=jH a2;have y1:=jH b2;have y2:=jH e2;go_wp2_with fail
     have L0:=WrL.start HW.out 65 #[.int .i64 x0, .int .i64 x1, .int .i64 x2, .int .i64 x3];have T0:WrT w(w7.alloc(.cells #[.int .i64 x0, .int .i64 x1, .int .i64 x2, .int .i64 x3]65))b bv ai:=aa.out.grown(ij(il _ _));clear d0 d1 d2 d3;generalize w7.alloc(.cells #[.int .i64 x0, .int .i64 x1, .int .i64 x2, .int .i64 x3]65)=u0 at L0 T0 ⊢;refine(mp W b x0 a1 a2 u0 ai l2 L0.wr(by have:=af.out;omega)).mono ?_;rintro e u1⟨⟨v1,rfl⟩,aK,ax,am⟩;have L1:=L0.call ax am;have T1:=T0.trans am;have m1:u1.cell?⟨w7.heap.size,1,none⟩=some(.int .i64 x1):=by simpa using L1.cell 1
     have HL:=hZ L1;have HT:=hZ T1;clear L1 T1 L0 T0 ax am HW aa;go_wp2_with fail
     have L1:=HL.out;have T1:=HT.out;clear HL HT m1;refine(mp W b x1 b1 b2 u1 aK(l2++js x0)L1.wr(by have:=af.out;simp only [List.length_append];omega)).mono ?_;rintro e u2⟨⟨v2,rfl⟩,aH,ag,ac⟩;have L2:=L1.call ag ac;have T2:=T1.trans ac;have m2:u2.cell?⟨w7.heap.size,2,none⟩=some(.int .i64 x2):=by simpa using L2.cell 2
     have HL:=hZ L2;have HT:=hZ T2;clear L2 T2 L1 T1 ag ac;go_wp2_with fail
     have L2:=HL.out;have T2:=HT.out;clear HL HT m2;refine(mp W b x2 e1 e2 u2 aH(l2++js x0++js x1)L2.wr(by have:=af.out;simp only [List.length_append];omega)).mono ?_;rintro e u3⟨⟨v3,rfl⟩,aI,ap,an⟩;have L3:=L2.call ap an;have T3:=T2.trans an;have m3:u3.cell?⟨w7.heap.size,3,none⟩=some(.int .i64 x3):=by simpa using L3.cell 3
     have HL:=hZ L3;have HT:=hZ T3;clear L3 T3 L2 T2 ap an;go_wp2_with fail
     have L3:=HL.out;have T3:=HT.out;clear HL HT m3;refine(BX W b x3 n1 n2 u3 aI(l2++js x0++js x1++js x2)L3.wr(by have:=af.out;simp only [List.length_append];omega)).mono ?_;rintro e u4⟨⟨v4,rfl⟩,aA,az,aE⟩;have T4:=hZ(T3.trans aE);have S4:Hid(WrS W u4 b aA(l1++js c.length++(c.take(k+1)).flatMap mz)):=by
      unfold Hid;rw [aG.out,HZ.out,<-List.append_assoc(l1++js c.length),aM.out];simpa [List.append_assoc]using az
     clear L3 T3 az aE;go_wp2_with fail
     go_roundw
     case rel=>exact⟨k+1,aA,by omega,by first | rfl | go_num,S4,T4⟩
     case measure=>simp [intOf];omega
    ·have k1:¬(k:Int)<c.length:=by omega
     have aC:k=c.length:=by omega
     have S5:Hid(WrS W w7 b ai(l++js p.length++(p.take(t+1)).flatMap jQ)):=by
      unfold Hid;rw [aL.out,<-List.append_assoc(l++js p.length),aN.out];have:=HW.out;rw [aC,List.take_length]at this;simpa [jQ,List.append_assoc]using this
     clear aC;go_wp2_with fail
     go_roundw
     case rel=>exact⟨t+1,ai,by omega,by first | rfl | go_num,S5,aa⟩
     case measure=>simp [intOf];omega
  ·have q1:¬(t:Int)<p.length:=by omega
   have au:t=p.length:=by omega
   have S5:Hid(WrS W w5 b al(l++mf p)):=by
    unfold Hid mf;have:=HW.out;rw [au,List.take_length]at this;simpa [List.append_assoc]using this
   clear au;go_wp2_with fail
   go_end0
   exact⟨⟨_,rfl⟩,al,S5.out,aa.out⟩
end
section
open Go.RowKit
attribute [local go_sem] Go.World.cell?_alloc_some
theorem xx {x:Int × Int}(h:0<=x.1/\x.1<=63/\1<=x.2/\x.2<=500):(lV x).length<=20:=by
 unfold lV;have h1:=jH(n:=x.1)(by omega);have h2:=jH(n:=x.2)(by omega);simp only [List.length_append];omega
theorem rC {s:List Int}(h:i8 s=true):s.length<=500:=by
 simp only [i8,Bool.and_eq_true,decide_eq_true_eq]at h;exact h.1
theorem Cf {s:List Int}(h:i8 s=true):(mH s).length<=10010:=by
 unfold mH;have h0:=rC h;have h3:=pq s;have h1:=jH(n:=(grp s).length)(by omega);have h2:=nY lV 20(grp s)(fun x hx=>xx(rn h x hx));have h4:20*(grp s).length<=20*500:=Nat.mul_le_mul_left _(by omega);simp only [List.length_append];omega
theorem yz(W:World)(b:Nat)(s:List Int)(sv:Value)(w:World)(bv:Value)(l:List Nat)(h:WrS W w b bv l)(hl:l.length<=5000)(hI:IntsAt W.heap.size W sv s)(hv:i8 s=true):
  Calls Tryz.prog 93 #[pt b,sv]w(uI W w b bv(l++mH s)):=by
 have HH:=hZ h;have ao:=hZ(GJ s sv w((hI.pres(ie h.base)).mono h.base.size)(rC hv));have HV:=hZ(rn hv);have hq5:(grp s).length<=500:=by have:=pq s;have:=rC hv;omega
 obtain⟨sa,sc,rfl⟩:=hI.form;have au:pt b= .pointer(some⟨b,0,none⟩):=rfl;rw [au]at*;unfold mH;generalize grp s=q at*;clear h hI hv au;go_enter Tryz.func93,Tryz.ntmps93
 go_wp2_with fail
 refine ao.out.mono ?_;rintro e w1⟨r1,r2,r3,rfl,ho,hg⟩;have aC:=iy ho;subst aC;have HO:=hZ ho;have aw:=hZ(HH.out.grown hg);have az:=hZ((WrT.refl w b bv).grown hg);have HZ:Hid(w.heap.size<=w1.heap.size):=hg.size;have aD:Hid(∀ k,r1=some k->k.block≠b/\bv.ownBlock≠some k.block):=by
  intro k hk;have h1:=iw ho k.block(by rw [hk];rfl);have h2:=HH.out.lt;refine⟨by omega,fun e=> ?_⟩;have:=HH.out.row.lt _ e;omega
 clear ho hg ao;go_wp2_with fail
 refine(mp W b q.length(by omega)(by omega)w1 bv l aw.out(by omega)).mono ?_;rintro e w2⟨⟨v2,rfl⟩,aE,ad,ac⟩;have ak:=hZ ad;have al:=hZ ac;clear ad ac;go_wp2_with fail
 go_loopw [15](fun i w'=>∃ (k:Nat)(bv':Value),k<=q.length/\i= .int .i64 k/\Hid(WrS W w' b bv'(l++js q.length++(q.take k).flatMap lV))/\Hid(WrT w1 w' b bv bv'))(fun i _=>q.length - (intOf i).toNat)
 case atStart=>exact⟨0,aE,Nat.zero_le _,rfl,hZ(by simpa using ak.out),al⟩
 case round=>
  clear ak al;obtain⟨k,ae,hk,rfl,HW,aa⟩:=hrel;obtain⟨w7,am⟩:∃ w7,w7=wr:=⟨_,rfl⟩;rw [<-am]at HW aa ⊢;clear am;by_cases ai:k<q.length
  ·obtain⟨g,cap,he,hgb,av⟩:=HO.out.form(by omega);simp only [Value.slice.injEq,true_and]at he;obtain⟨rfl,rfl⟩:=he;obtain⟨f0,f1⟩:=Al q k ai;have af:=aD.out⟨g,0,none⟩rfl;have ag:w7.heap[g]?=w1.heap[g]?:=aa.out.keep g av af.1 af.2;have ab:=Az q;have d0:w7.cell?⟨g,k*2,none⟩=some(.int .i64 q[k].1):=by
    rw [World.cell?_of_block(w:=w1)ag,HO.out.cellAt _(by omega)];exact f0
   have d1:w7.cell?⟨g,k*2+1,none⟩=some(.int .i64 q[k].2):=by
    rw [World.cell?_of_block(w:=w1)ag,HO.out.cellAt _(by omega)];exact f1
   have k0:(0:Int)<=(k:Int):=by omega
   have k1:(k:Int)<q.length:=by omega
   obtain⟨a1,a2,b1,b2⟩:=HV.out q[k](List.getElem_mem ai);have ax:=hZ(rF lV q k ai);have ah:Hid((l++js q.length++(q.take k).flatMap lV).length<=20000):=by
    unfold Hid;have h1:=jH(n:=q.length)(by omega);have h2:=nY lV 20(q.take k)(fun i h=>xx(HV.out i(List.mem_of_mem_take h)));simp only [List.length_append,List.length_take]at h2 ⊢;have h3:20*min k q.length<=20*500:=Nat.mul_le_mul_left _(by omega);omega
   generalize an:l++js q.length++(q.take k).flatMap lV=l2 at HW ah ⊢;have aB:=hZ an;have ay:Hid(lV q[k]=js q[k].1++js q[k].2):=rfl;clear an f0 f1 af ag ab;generalize q[k].1=x0 at*;generalize q[k].2=x1 at*;have y0:=jH(n:=x0)(by omega);go_wp2_with fail
   have L0:=WrL.start HW.out 187 #[.int .i64 x0, .int .i64 x1];have T0:WrT w1(w7.alloc(.cells #[.int .i64 x0, .int .i64 x1]187))b bv ae:=aa.out.grown(ij(il _ _));clear d0 d1;generalize w7.alloc(.cells #[.int .i64 x0, .int .i64 x1]187)=u0 at L0 T0 ⊢;refine(mp W b x0 a1(by omega)u0 ae l2 L0.wr(by have:=ah.out;omega)).mono ?_;rintro e u1⟨⟨v1,rfl⟩,aA,ap,aj⟩;have L1:=L0.call ap aj;have T1:=T0.trans aj;have m1:u1.cell?⟨w7.heap.size,1,none⟩=some(.int .i64 x1):=by simpa using L1.cell 1
   have HL:=hZ L1;have HT:=hZ T1;clear L1 T1 L0 T0 ap aj HW aa;go_wp2_with fail
   have L1:=HL.out;have T1:=HT.out;clear HL HT m1;refine(mp W b x1(by omega)(by omega)u1 aA(l2++js x0)L1.wr(by have:=ah.out;simp only [List.length_append];omega)).mono ?_;rintro e u2⟨⟨v2,rfl⟩,aq,ad,ac⟩;have T4:=hZ(T1.trans ac);have S4:Hid(WrS W u2 b aq(l++js q.length++(q.take(k+1)).flatMap lV)):=by
    unfold Hid;rw [ax.out,ay.out,<-List.append_assoc(l++js q.length),aB.out];simpa [List.append_assoc]using ad
   clear L1 T1 ad ac;go_wp2_with fail
   go_roundw
   case rel=>exact⟨k+1,aq,by omega,by first | rfl | go_num,S4,T4⟩
   case measure=>simp [intOf];omega
  ·have k1:¬(k:Int)<q.length:=by omega
   have ar:k=q.length:=by omega
   have S5:Hid(WrS W w7 b ae(l++(js q.length++q.flatMap lV))):=by
    unfold Hid;have:=HW.out;rw [ar,List.take_length]at this;simpa [List.append_assoc]using this
   clear ar;go_wp2_with fail
   go_end0
   exact⟨⟨_,rfl⟩,ae,S5.out,az.out.trans aa.out⟩
end
section
open Go.RowKit
attribute [local go_sem] Go.World.cell?_alloc_some
theorem lw(n:Int):∀ x∈js n,x<256:=lm _
theorem tr {α:Type}(f:α->List Nat)(q:List α)(h:∀ y∈q,∀ x∈f y,x<256):∀ x∈q.flatMap f,x<256:=by
 intro x hx;obtain⟨y,hy,hx⟩:=List.mem_flatMap.1 hx;exact h y hy x hx
theorem lR {a b:List Nat}(ha:∀ x∈a,x<256)(hb:∀ x∈b,x<256):∀ x∈a++b,x<256:=by
 intro x hx;rcases List.mem_append.1 hx with h | h
 ·exact ha x h
 ·exact hb x h
theorem Bf(a:Art):∀ x∈mO a,x<256:=by
 unfold mO mf mH mP;refine lR(by decide)(lR(lR(lw _)(tr _ _ fun c _=> ?_))(lR(lR(lw _)(tr _ _ fun r _=> ?_))(lR(lw _)(lR(lw _)(lw _)))))
 ·unfold jQ;refine lR(lw _)(tr _ _ fun i _=> ?_);unfold mz;exact lR(lw _)(lR(lw _)(lR(lw _)(lm _)))
 ·unfold lV;exact lR(lw _)(lw _)
theorem E1(a:Art)(tv sv:Value)(w:World)(hP:ProgAt w(.agg #[tv])a.prog)(hS:IntsAt w.heap.size w sv a.sch)(hE:jF a=0)(hi:∀ c∈a.prog,∀ i∈c,kP i):
  Calls Tryz.prog 64 #[pP tv sv a.ver]w fun e w'=>e= .returned(.string(bs(mV a)))/\w.grownBy w' none:=by
 have hp:iR a.prog=true:=by
  unfold jF at hE;split at hE<;>simp_all
 have hs:i8 a.sch=true/\kL a.ver=true:=by
  rw [jF,if_pos hp]at hE;split at hE<;>simp_all
 have ae:Hid(mV a= [82,82,1]++mf a.prog++mH a.sch++mP a.ver++leB 4(lF([82,82,1]++mf a.prog++mH a.sch++mP a.ver))):=by
  unfold Hid mV mO;simp [List.append_assoc]
 have af:Hid(∀ x∈ [82,82,1]++mf a.prog++mH a.sch++mP a.ver,x<256):=by
  have:=Bf a;unfold Hid;unfold mO at this;simpa [List.append_assoc]using this
 generalize mV a=E at*;obtain⟨p,l,v1,v2,v3⟩:=a;simp only at hP hS hi hp hs ae af ⊢;have hv:=hs.2;simp only [kL,Bool.and_eq_true,decide_eq_true_eq]at hv;have aj:=hZ(A5 hp hi);have am:=hZ(Cf hs.1);have HP:=hZ hP;have HS:=hZ hS;have ax:=hZ hp;have az:=hZ hs.1;have HI:=hZ hi;obtain⟨ta,tc,e1⟩:=hP.form;simp only [Value.agg.injEq,Array.mk.injEq,List.cons.injEq,and_true]at e1;subst e1;obtain⟨sa,sc,rfl⟩:=hS.form;clear hP hS hE hi hp hs;unfold pP;simp only;have kc:=Lib.run_convert_bytes_const(P:=Tryz.prog)(w.alloc(.cells #[.slice ta p.length tc, .slice sa l.length sc, .int .i64 v1, .int .i64 v2, .int .i64 v3]56))147 5 #[.int .u8 82, .int .u8 82, .int .u8 1]3 3 Tryz.underlying147 Tryz.underlying5;have ez:(w.alloc(.cells #[.slice ta p.length tc, .slice sa l.length sc, .int .i64 v1, .int .i64 v2, .int .i64 v3]56)).heap.size=w.heap.size+1:=by simp
 rw [ez]at kc;go_enter Tryz.func64,Tryz.ntmps64
 go_wp2_with fail
 clear kc ez;have ac:w.grownBy(w.alloc(.cells #[.slice ta p.length tc, .slice sa l.length sc, .int .i64 v1, .int .i64 v2, .int .i64 v3]56))none:=ij(il _ _);have aa:=heap_alloc_new w(.cells #[.slice ta p.length tc, .slice sa l.length sc, .int .i64 v1, .int .i64 v2, .int .i64 v3]56);have ah:(w.alloc(.cells #[.slice ta p.length tc, .slice sa l.length sc, .int .i64 v1, .int .i64 v2, .int .i64 v3]56)).heap.size=w.heap.size+1:=by simp
 generalize w.alloc(.cells #[.slice ta p.length tc, .slice sa l.length sc, .int .i64 v1, .int .i64 v2, .int .i64 v3]56)=W at ac aa ah ⊢;have au:=hZ(HP.out.pres(ie ac));have ap:Hid(IntsAt W.heap.size W(.slice sa l.length sc)l):=(HS.out.pres(ie ac)).mono ac.size;have aC:=hZ ac;have e0:W.cell?⟨w.heap.size,0,none⟩=some(.slice ta p.length tc):=by simp [World.cell?,aa]
 have e1:W.cell?⟨w.heap.size,1,none⟩=some(.slice sa l.length sc):=by simp [World.cell?,aa]
 have e2:W.cell?⟨w.heap.size,2,none⟩=some(.int .i64 v1):=by simp [World.cell?,aa]
 have e3:W.cell?⟨w.heap.size,3,none⟩=some(.int .i64 v2):=by simp [World.cell?,aa]
 have e4:W.cell?⟨w.heap.size,4,none⟩=some(.int .i64 v3):=by simp [World.cell?,aa]
 have ag:WrS W((W.alloc(.cells #[.int .u8 82, .int .u8 82, .int .u8 1]5(3,4))).alloc(.cells #[.slice(some⟨w.heap.size+1,0,none⟩)3 3]172))(w.heap.size+1+1)(.slice(some⟨w.heap.size+1,0,none⟩)3 3) [82,82,1]:=by
  refine⟨?_,Or.inr⟨w.heap.size+1, #[.int .u8 82, .int .u8 82, .int .u8 1],rfl,by omega, ?_,rfl,rfl⟩,by simp [Value.ownBlock],by omega,ij(ij(il _ _))⟩
  ·have:=heap_alloc_new(W.alloc(.cells #[.int .u8 82, .int .u8 82, .int .u8 1]5(3,4)))(.cells #[.slice(some⟨w.heap.size+1,0,none⟩)3 3]172);simpa [ah]using this
  ·rw [Below.heap_alloc _ _ _(by simp;omega)];have:=heap_alloc_new W(.cells #[.int .u8 82, .int .u8 82, .int .u8 1]5(3,4));rwa [ah]at this
 generalize(W.alloc(.cells #[.int .u8 82, .int .u8 82, .int .u8 1]5(3,4))).alloc(.cells #[.slice(some⟨w.heap.size+1,0,none⟩)3 3]172)=w3 at ag ⊢;generalize w.heap.size+1+1=b at ag ⊢;clear ac aa ah HP HS;refine(Bv W b p(.agg #[.slice ta p.length tc])w3 _ [82,82,1]ag(by decide)au.out ax.out HI.out).mono ?_;rintro e w4⟨⟨u4,rfl⟩,aE,ai,aB⟩;have d1:=ie ai.base _ _ e1;have an:=hZ ai;clear ai aB ag e0 e1;go_wp2_with fail
 refine(yz W b l(.slice sa l.length sc)w4 aE([82,82,1]++mf p)an.out(by have:=aj.out;simp only [List.length_append,List.length_cons,List.length_nil];omega)ap.out az.out).mono ?_;rintro e w5⟨⟨u5,rfl⟩,ar,ad,aD⟩;have d2:=ie ad.base _ _ e2;have d3:=ie ad.base _ _ e3;have d4:=ie ad.base _ _ e4;have al:=hZ ad;clear ad aD an d1 e2 e3 e4;go_wp2_with fail
 refine(AZ W b(v1,v2,v3)(by simp only;omega)(by simp only;omega)(by simp only;omega)w5 ar([82,82,1]++mf p++mH l)al.out(by have:=aj.out;have:=am.out;simp only [List.length_append,List.length_cons,List.length_nil];omega)).mono ?_;rintro e w6⟨⟨u6,rfl⟩,aA,ak,ay⟩;have ao:=hZ ak;clear ak ay al d2 d3 d4;have aw:Hid((mP(v1,v2,v3)).length<=30):=by
  unfold Hid mP;have h3:=jH(n:=v1)(by omega);have h4:=jH(n:=v2)(by omega);have h5:=jH(n:=v3)(by omega);simp only [List.length_append];omega
 go_wp2_with fail
 refine(Ey W b w6 aA([82,82,1]++mf p++mH l++mP(v1,v2,v3))ao.out(by have:=aj.out;have:=am.out;have:=aw.out;simp only [List.length_append,List.length_cons,List.length_nil];omega)af.out).mono ?_;rintro e w7⟨⟨u7,rfl⟩,bv7,ab,av⟩;rw [<-ae.out]at ab;have aq:=hZ ab;have d5:=ab.cell;have d6:=ab.row.str;obtain⟨x1,x3,rfl⟩:=ab.row.form;clear ab av ao;go_wp2_with fail
 go_ret;exact⟨rfl,ic aC.out aq.out.base⟩
theorem BU(a:Art)(tv sv:Value)(w:World)(af:ShpAt w)(hP:ProgAt w(.agg #[tv])a.prog)(hS:IntsAt w.heap.size w sv a.sch)(hE:jF a=0)(hi:∀ c∈a.prog,∀ i∈c,kP i):
  Calls Tryz.prog 39 #[pP tv sv a.ver]w fun e w'=>e= .returned(.tuple #[.string(bs(mV a)), .int .i64 0])/\w.grownBy w' none:=by
 have ai:=hP.form;obtain⟨ta,tc,e1⟩:=ai;simp only [Value.agg.injEq,Array.mk.injEq,List.cons.injEq,and_true]at e1;obtain⟨sa,sc,e2⟩:=hS.form;subst e1 e2;have aa:w.grownBy(w.alloc(.cells #[.slice ta a.prog.length tc, .slice sa a.sch.length sc, .int .i64 a.ver.1, .int .i64 a.ver.2.1, .int .i64 a.ver.2.2]56))none:=ij(il _ _);have ac:=heap_alloc_new w(.cells #[.slice ta a.prog.length tc, .slice sa a.sch.length sc, .int .i64 a.ver.1, .int .i64 a.ver.2.1, .int .i64 a.ver.2.2]56);have HA:=hZ(s9 a(.slice ta a.prog.length tc)(.slice sa a.sch.length sc)_(ShpAt.pres af(ie aa))(hP.pres(ie aa))((hS.pres(ie aa)).mono aa.size));rw [hE]at HA;have HW:=hZ(fun(w':World)(hg:w.grownBy w' none)=>E1 a(.slice ta a.prog.length tc)(.slice sa a.sch.length sc)w'(hP.pres(ie hg))((hS.pres(ie hg)).mono hg.size)hE hi);clear af hP hS hE hi;unfold pP at*;go_enter Tryz.func39,Tryz.ntmps39
 go_wp2_with fail
 generalize w.alloc(.cells #[.slice ta a.prog.length tc, .slice sa a.sch.length sc, .int .i64 a.ver.1, .int .i64 a.ver.2.1, .int .i64 a.ver.2.2]56)=W at aa ac HA ⊢;refine HA.out.mono ?_;rintro e w2⟨rfl,ad⟩;have ab:w2.heap[w.heap.size]?=some(.cells #[.slice ta a.prog.length tc, .slice sa a.sch.length sc, .int .i64 a.ver.1, .int .i64 a.ver.2.1, .int .i64 a.ver.2.2]56(0,0)):=by
  rw [ad.block _(Array.getElem?_eq_some_iff.1 ac).1(by simp)];exact ac
 have e0:w2.cell?⟨w.heap.size,0,none⟩=some(.slice ta a.prog.length tc):=by simp [World.cell?,ab]
 have e1:w2.cell?⟨w.heap.size,1,none⟩=some(.slice sa a.sch.length sc):=by simp [World.cell?,ab]
 have e2:w2.cell?⟨w.heap.size,2,none⟩=some(.int .i64 a.ver.1):=by simp [World.cell?,ab]
 have e3:w2.cell?⟨w.heap.size,3,none⟩=some(.int .i64 a.ver.2.1):=by simp [World.cell?,ab]
 have e4:w2.cell?⟨w.heap.size,4,none⟩=some(.int .i64 a.ver.2.2):=by simp [World.cell?,ab]
 have ag:=hZ(ic aa ad);clear ad ab ac aa;go_wp2_with fail
 refine(HW.out w2 ag.out).mono ?_;rintro e w3⟨rfl,ae⟩;have ah:=hZ(ic ag.out ae);clear ae e0 e1 e2 e3 e4;go_wp2_with fail
 refine bodyPost_ret(v:= .tuple #[.string(bs(mV a)), .int .i64 0])(by simp [results,Tryz.results39,go_sem])rfl ?_;exact⟨rfl,ah.out⟩
end
section
open Go.RowKit
attribute [local go_sem] Go.World.cell?_alloc_some
theorem DM(a:Art)(tv sv:Value)(w:World)(ab:ShpAt w)(hP:ProgAt w(.agg #[tv])a.prog)(hS:IntsAt w.heap.size w sv a.sch)(hE:jF a≠0):
  Calls Tryz.prog 39 #[pP tv sv a.ver]w fun e w'=>e= .returned(.tuple #[.string⟨#[]⟩, .int .i64(jF a)])/\w.grownBy w' none:=by
 have ad:=hP.form;obtain⟨ta,tc,e1⟩:=ad;simp only [Value.agg.injEq,Array.mk.injEq,List.cons.injEq,and_true]at e1;obtain⟨sa,sc,e2⟩:=hS.form;subst e1 e2;have aa:w.grownBy(w.alloc(.cells #[.slice ta a.prog.length tc, .slice sa a.sch.length sc, .int .i64 a.ver.1, .int .i64 a.ver.2.1, .int .i64 a.ver.2.2]56))none:=ij(il _ _);have HA:=hZ(s9 a(.slice ta a.prog.length tc)(.slice sa a.sch.length sc)_(ShpAt.pres ab(ie aa))(hP.pres(ie aa))((hS.pres(ie aa)).mono aa.size));clear ab hP hS;unfold pP at*;generalize jF a=ee at*;have hne:(ee !=0)=true:=by simpa using hE
 clear hE;go_enter Tryz.func39,Tryz.ntmps39
 go_wp2_with fail
 generalize w.alloc(.cells #[.slice ta a.prog.length tc, .slice sa a.sch.length sc, .int .i64 a.ver.1, .int .i64 a.ver.2.1, .int .i64 a.ver.2.2]56)=W at aa HA ⊢;refine HA.out.mono ?_;rintro e w2⟨rfl,ac⟩;have ae:=hZ(ic aa ac);clear ac aa HA;go_wp2_with fail
 refine bodyPost_ret(v:= .tuple #[.string⟨#[]⟩, .int .i64 ee])(by simp [results,Tryz.results39,go_sem])rfl ?_;exact⟨rfl,ae.out⟩
theorem yp(p:List(List Ins))(s:List Int)(k0 k1 k2:Int)(tv sv:Value)(w:World)(ab:ShpAt w)(hP:ProgAt w(.agg #[tv])p)(hS:IntsAt w.heap.size w sv s)(hi:∀ c∈p,∀ i∈c,CT i):
  Calls Tryz.prog 39 #[.agg #[tv,sv, .int .i64 k0, .int .i64 k1, .int .i64 k2]]w fun e w'=>e= .returned(kh⟨p,s,(k0,k1,k2)⟩)/\w.grownBy w' none:=by
 by_cases h0:jF⟨p,s,(k0,k1,k2)⟩=0
 ·have aa:kh⟨p,s,(k0,k1,k2)⟩= .tuple #[.string(bs(mV⟨p,s,(k0,k1,k2)⟩)), .int .i64 0]:=by unfold kh;rw [if_pos h0]
  rw [aa];refine BU⟨p,s,(k0,k1,k2)⟩tv sv w ab hP hS h0(fun c hc i hi'=> ?_);have hp:=(rB h0).1;simp only [iR,Bool.and_eq_true,List.all_eq_true]at hp;have h2:=hp.2.2 c hc;simp only [kW,Bool.and_eq_true,List.all_eq_true,decide_eq_true_eq]at h2;obtain⟨g1,g2,g3⟩:=pO(h2.2 i hi');exact uG⟨g1,g2,g3,hi c hc i hi'⟩
 ·have aa:kh⟨p,s,(k0,k1,k2)⟩= .tuple #[.string⟨#[]⟩, .int .i64(jF⟨p,s,(k0,k1,k2)⟩)]:=by unfold kh;rw [if_neg h0]
  rw [aa];exact DM⟨p,s,(k0,k1,k2)⟩tv sv w ab hP hS h0
theorem xF(a:Art):∃ S E,kh a= .tuple #[.string S, .int .i64 E]:=by
 unfold kh;by_cases h:jF a=0
 ·rw [if_pos h];exact⟨_,_,rfl⟩
 ·rw [if_neg h];exact⟨_,_,rfl⟩
end
section
open Go.RowKit
attribute [local go_sem] Go.World.cell?_alloc_some
theorem pQ {w:World} {g:Nat} {x0 x1 x2 x3 x4:Value} {t:TypeId}(h:w.heap[g]?=some(.cells #[x0,x1,x2,x3,x4]t(0,0))):w.cell?⟨g,0,none⟩=some x0/\w.cell?⟨g,1,none⟩=some x1/\w.cell?⟨g,2,none⟩=some x2/\w.cell?⟨g,3,none⟩=some x3/\w.cell?⟨g,4,none⟩=some x4:=by
 simp [World.cell?,h]
theorem DE(n:Int)(w:World):Calls Tryz.prog 23 #[.int .i64 n]w fun e w'=>e= .returned(.int .i64 n)/\w'=w:=by
 go_enter Tryz.func23,Tryz.ntmps23
 go_wp2_with fail
 go_ret;exact⟨rfl,rfl⟩
theorem Bp(W:World)(B:Nat)(w:World)(b:Nat)(who:Nat->Role)(n:Int)(f:Nat->Value)(K:Nat->List(Value × Int))(tv sv:Value)(p:List(List Ins))(s:List Int)(k0 k1 k2:Int)
  (h:Hz B w b who n f K)(hW:W.grownBy w none)(aC:W.heap.size<=B)(hS:ShpAt W)(hP:ProgAt W(.agg #[tv])p)(hI:IntsAt W.heap.size W sv s)(aV:p.length<=5864062014634)(a6:∀ c∈p,c.length<=4398046510976)(bm:s.length<=17592186043904)(aX:∀ c∈p,∀ i∈c,CT i):
  Calls Tryz.prog 11 #[pt b, .agg #[tv,sv, .int .i64 k0, .int .i64 k1, .int .i64 k2]]w(HzE W B b n K w who):=by
 obtain⟨ao,ak,aW⟩:=hP.form;simp only [Value.agg.injEq,Array.mk.injEq,List.cons.injEq,and_true]at aW;subst aW;obtain⟨so,sc,rfl⟩:=hI.form;have HH:=hZ h;have HW:=hZ hW;have HS:=hZ hS;have HP:=hZ hP;have HI:=hZ hI;have bi:=hZ a6;have a2:=hZ aX;have aI:pt b= .pointer(some⟨b,0,none⟩):=rfl;clear h hW hS hP hI a6 aX;rw [aI];go_enter Tryz.func11,Tryz.ntmps11
 go_upto_region 1 with fail
 obtain⟨w0,aG⟩:∃ w0,w0=w.alloc(.cells #[.slice ao p.length ak, .slice so s.length sc, .int .i64 k0, .int .i64 k1, .int .i64 k2]56):=⟨_,rfl⟩;have a5:Hid(w0.heap[w.heap.size]?=some(.cells #[.slice ao p.length ak, .slice so s.length sc, .int .i64 k0, .int .i64 k1, .int .i64 k2]56(0,0))):=by unfold Hid;rw [aG];exact heap_alloc_new w _
 have aQ:Hid(w.grownBy w0 none):=by unfold Hid;rw [aG];exact ij(il _ _)
 rw [<-aG];clear aG;have ay:Hid(∀ u:World,u.heap[w.heap.size]?=w0.heap[w.heap.size]?->u.cell?⟨w.heap.size,0,none⟩=some(.slice ao p.length ak)/\u.cell?⟨w.heap.size,1,none⟩=some(.slice so s.length sc)/\u.cell?⟨w.heap.size,2,none⟩=some(.int .i64 k0)/\u.cell?⟨w.heap.size,3,none⟩=some(.int .i64 k1)/\u.cell?⟨w.heap.size,4,none⟩=some(.int .i64 k2)):=fun u hu=>by
  obtain⟨e0,e1,e2,e3,e4⟩:=pQ(show u.heap[w.heap.size]?=some(.cells #[.slice ao p.length ak, .slice so s.length sc, .int .i64 k0, .int .i64 k1, .int .i64 k2]56(0,0))by rw [hu];exact a5.out);exact⟨e0,e1,e2,e3,e4⟩
 have be:Hid(W.grownBy w0.drew none):=ir(ic HW.out aQ.out);have aU:=hZ(ns W B w0.drew b who n f K [] [] [](.agg #[.slice ao p.length ak])p(HH.out.lx.grown(ir aQ.out))be.out aC HP.out aV bi.out(by simpa using aV)(by simp));rw [aI]at aU;have a4:who w.heap.size= .other:=by
  by_cases e:who w.heap.size= .other
  ·exact e
  ·exact absurd(HH.out.1.1.dom _ e).2(by omega)
 have bp:=hZ a4;have bb:Hid(w.heap.size<w0.heap.size):=(Array.getElem?_eq_some_iff.1 a5.out).1;clear a4;refine iu(fun u=>u.cell?⟨w.heap.size,0,none⟩=some(.slice ao p.length ak)/\u.cell?⟨w.heap.size,1,none⟩=some(.slice so s.length sc)/\u.cell?⟨w.heap.size,2,none⟩=some(.int .i64 k0)/\u.cell?⟨w.heap.size,3,none⟩=some(.int .i64 k1)/\u.cell?⟨w.heap.size,4,none⟩=some(.int .i64 k2))16(by kernel_rfl)(by kernel_rfl)(ay.out w0.drew rfl) ?_;intro aa;refine hY(i:=0)(v:= ?vv1)rfl(by kernel_rfl)(fun _ _ _ h=>h)(Or.inl⟨by kernel_rfl, ?hy1⟩)aa ?rest1
 case hy1=>(rintro u⟨ad,af,ag,ah,ae⟩;go_simp;try with_reducible rfl)
 simp only [Act.put,List.setIfInBounds_toArray];refine hY(i:=1)(v:= ?vv2)rfl(by kernel_rfl)(fun _ _ _ h=>h)(Or.inl⟨by kernel_rfl, ?hy2⟩)aa ?rest2
 case hy2=>(rintro u⟨ad,af,ag,ah,ae⟩;go_simp;try with_reducible rfl)
 simp only [Act.put];refine hY(i:=2)(v:= ?vv3)rfl(by kernel_rfl)(fun _ _ _ h=>h)(Or.inl⟨by kernel_rfl, ?hy3⟩)aa ?rest3
 case hy3=>(rintro u⟨ad,af,ag,ah,ae⟩;go_simp;try with_reducible rfl)
 simp only [Act.put];refine hY(i:=4)(v:= ?vv4)rfl(by kernel_rfl)(fun _ _ _ h=>h)(Or.inl⟨by kernel_rfl, ?hy4⟩)aa ?rest4
 case hy4=>(rintro u⟨ad,af,ag,ah,ae⟩;go_simp;try with_reducible rfl)
 simp only [Act.put];refine hY(i:=5)(v:= ?vv5)rfl(by kernel_rfl)(fun _ _ _ h=>h)(Or.inl⟨by kernel_rfl, ?hy5⟩)aa ?rest5
 case hy5=>(rintro u⟨ad,af,ag,ah,ae⟩;go_simp;try with_reducible rfl)
 simp only [Act.put];refine hY(i:=6)(v:= ?vv6)rfl(by kernel_rfl)(fun _ _ _ h=>h)(Or.inl⟨by kernel_rfl, ?hy6⟩)aa ?rest6
 case hy6=>(rintro u⟨ad,af,ag,ah,ae⟩;go_simp;try with_reducible rfl)
 simp only [Act.put];refine hY(i:=8)(v:= ?vv7)rfl(by kernel_rfl)(fun _ _ _ h=>h)(Or.inl⟨by kernel_rfl, ?hy7⟩)aa ?rest7
 case hy7=>(rintro u⟨ad,af,ag,ah,ae⟩;go_simp;try with_reducible rfl)
 simp only [Act.put];refine hY(i:=9)(v:= ?vv8)rfl(by kernel_rfl)(fun _ _ _ h=>h)(Or.inl⟨by kernel_rfl, ?hy8⟩)aa ?rest8
 case hy8=>(rintro u⟨ad,af,ag,ah,ae⟩;go_simp;try with_reducible rfl)
 simp only [Act.put];refine ip(i:=3)rfl(by kernel_rfl)(by kernel_rfl)(by kernel_rfl) ?_;intro K3 bj;have bk:=hZ bj;clear bj;go_simp;refine(aU.out).mono ?_;clear aU;rintro e w1⟨g,LC1,aA,f1,rfl,ap,aK,aB,bq⟩;obtain⟨aq,ax⟩:=aB.oth w.heap.size bb.out bp.out(fun e=>e);have aw:Hid(w1.heap[w.heap.size]?=w0.heap[w.heap.size]?):=aq;have aS:Hid(W.grownBy w1 none):=aB.base be.out aC(fun g e=>(HH.out.1.1.dom g e).1)(fun _ e=>e.elim);have bl:Hid(Fr w w1 who aA(fun g=>w.heap.size<=g)):=(Fr.grown(ir aQ.out)).step0 aB;have aY:LC1.length=p.length:=by rw [<-aK];simp
 simp only [List.nil_append]at ap;have aR:=hZ(lZ B w1 b aA n f1 K []LC1 [(g,p.length)]0(.slice so s.length sc)s ap((HI.out.pres(ie aS.out)).mono aS.out.size)(mC ap.hs aC HI.out)bm(by simp));rw [aI]at aR;have bw:=hZ ap;have bu:=hZ aK;have bx:=hZ ax;have a0:=hZ aY;have bf:Hid(w.heap.size<w1.heap.size):=by unfold Hid;have:=aB.size;have:=bb.out;simp only [World.drew]at*;omega
 clear ap aK aB bq aq ax aY;have ai:=ay.out w1 aw.out;refine bk.out _ _ ai ?_;clear bk;try simp only [Act.put,List.setIfInBounds_toArray]
 refine ip(i:=7)rfl(by kernel_rfl)(by kernel_rfl)(by kernel_rfl) ?_;intro K7 a7;have aZ:=hZ a7;clear a7;go_simp;refine(aR.out).mono ?_;clear aR;rintro e w2⟨gs,aj,f2,rfl,an,au⟩;simp only [List.nil_append]at an;have bg:Hid(W.grownBy w2 none):=au.base aS.out aC(fun g e=>(bw.out.hs.1.dom g e).1)(fun _ e=>e.elim);have bn:Hid(Fr w w2 who aj(fun g=>w.heap.size<=g)):=bl.out.step0 au;obtain⟨aq,ax⟩:=au.oth w.heap.size bf.out bx.out(fun e=>e);have av:Hid(w2.heap[w.heap.size]?=w0.heap[w.heap.size]?):=aq.trans aw.out;have aO:=hZ ax;have a8:w2.heap[g]?=some(.cells(jx LC1)66(0,0)):=by
  have:=(an.le.lr 0(by simp)).1;simp only [List.getElem_cons_zero,List.take_zero,List.map_nil,List.sum_nil,List.drop_zero]at this;rw [List.take_of_length_le(by rw [a0.out];omega)]at this;exact this
 have bh:ProgAt w2(.agg #[.slice(some⟨g,0,none⟩)p.length(p.length+2)])p:=np(LC0:= [])(by simpa using an.le)a8 bu.out _;have ba:IntsAt w2.heap.size w2(.slice(some⟨gs,0,none⟩)s.length(s.length+2))s:=l9(an.le.li(gs,s, .slice so s.length sc)(by simp)).1;have aP:=hZ(yp p s k0 k1 k2 _ _ w2(HS.out.pres(ie bg.out))bh ba a2.out);have a1:=hZ an;have bc:Hid(w.heap.size<w2.heap.size):=by unfold Hid;have:=au.size;have:=bf.out;omega
 clear an au aq ax a8 bh ba;have ac:=ay.out w2 av.out;obtain⟨SS,EE,aJ⟩:=xF⟨p,s,(k0,k1,k2)⟩;rw [aJ]at aP;have bt:=hZ aJ;clear aJ;refine aZ.out _ _ ac ?_;clear aZ;try simp only [Act.put,List.setIfInBounds_toArray]
 refine hY(i:=10)(v:= ?vv9)rfl(by kernel_rfl)(fun _ _ _ h=>h)(Or.inl⟨by kernel_rfl, ?hy9⟩)ac ?rest9
 case hy9=>(rintro u⟨ad,af,ag,ah,ae⟩;go_simp;try with_reducible rfl)
 simp only [Act.put,List.setIfInBounds_toArray];refine ip(i:=11)rfl(by kernel_rfl)(by kernel_rfl)(by kernel_rfl) ?_;intro K11 ar;have az:=hZ ar;clear ar;go_simp;refine(aP.out).mono ?_;clear aP;rintro e w3⟨rfl,aE⟩;have am:=hZ aE;have aD:Hid(w3.heap[w.heap.size]?=w0.heap[w.heap.size]?):=by unfold Hid;rw [aE.block _ bc.out(by simp)];exact av.out
 have bv:Hid(W.grownBy w3 none):=ic bg.out aE;clear aE;have ab:=ay.out w3 aD.out;refine az.out _ _ ab ?_;clear az;try simp only [Act.put,List.setIfInBounds_toArray]
 refine hY(i:=12)(v:= ?vv10)rfl(by kernel_rfl)(fun _ _ _ h=>h)(Or.inl⟨by kernel_rfl, ?hy10⟩)ab ?rest10
 case hy10=>(rintro u⟨ad,af,ag,ah,ae⟩;go_simp;try with_reducible rfl)
 simp only [Act.put,List.setIfInBounds_toArray];refine hY(i:=13)(v:= ?vv11)rfl(by kernel_rfl)(fun _ _ _ h=>h)(Or.inl⟨by kernel_rfl, ?hy11⟩)ab ?rest11
 case hy11=>(rintro u⟨ad,af,ag,ah,ae⟩;go_simp;try with_reducible rfl)
 simp only [Act.put];refine hY(i:=14)(v:= ?vv12)rfl(by kernel_rfl)(fun _ _ _ h=>h)(Or.inl⟨by kernel_rfl, ?hy12⟩)ab ?rest12
 case hy12=>(rintro u⟨ad,af,ag,ah,ae⟩;go_simp;try with_reducible rfl)
 simp only [Act.put];refine hY(i:=15)(v:= ?vv13)rfl(by kernel_rfl)(fun _ _ _ h=>h)(Or.inl⟨by kernel_rfl, ?hy13⟩)ab ?rest13
 case hy13=>(rintro u⟨ad,af,ag,ah,ae⟩;go_simp;try with_reducible rfl)
 simp only [Act.put];refine iE rfl(by kernel_rfl)(by kernel_rfl)(by kernel_rfl) ?_;go_simp;clear aa ai ac ab;have aT:=hZ(rl B w3 b aj n f2 K _ _ _(a1.out.grown am.out)(by simp)(by rw [a0.out];omega)(by simp));rw [aI]at aT;go_wp2_with fail
 refine aT.out.mono ?_;clear aT;rintro e w4⟨rfl,f4,bd,aF⟩;have aH:Hid(W.grownBy w4 none):=aF.base bv.out aC(fun g e=>(a1.out.hs.1.dom g e).1)(fun _ e=>e.elim);have bo:Hid(Fr w w4 who aj(fun g=>w.heap.size<=g)):=(bn.out.stepG am.out).step0 aF;have aM:Hid(w4.heap[w.heap.size]?=w0.heap[w.heap.size]?):=by
  unfold Hid;rw [(aF.oth w.heap.size(Nat.lt_of_lt_of_le bc.out am.out.size)aO.out(fun e=>e)).1];exact aD.out
 obtain⟨d0,d1,d2,d3,d4⟩:=ay.out w4 aM.out;have aL:=hZ(sj p s k0 k1 k2(.slice ao p.length ak)(.slice so s.length sc)w4(HP.out.pres(ie aH.out))((HI.out.pres(ie aH.out)).mono aH.out.size)aV bi.out a2.out);rw [bt.out]at aL;have a3:=hZ bd;clear bd aF;go_wp2_with fail
 refine aL.out.mono ?_;clear aL d0 d1 d2 d3 d4;rintro e w5⟨a9,rfl⟩;have al:=hZ a9;clear a9;go_wp2_with(go_at_call 23;refine(DE _ _).mono ?_;rintro e w9⟨rfl,br⟩;have aN:=br.symm;subst aN)
 go_ret;exact⟨by simp,aj,f4,⟨a3.out.1.grown al.out,a3.out.2⟩,ic aH.out al.out,bo.out.stepG al.out⟩
end
section
open Go.RowKit
attribute [local go_sem] Go.World.cell?_alloc_some
theorem AD(W:World)(B:Nat)(w:World)(b:Nat)(who:Nat->Role)(n:Int)(f:Nat->Value)(K:Nat->List(Value × Int))(s:ByteArray)
  (h:Hz B w b who n f K)(hW:W.grownBy w none)(a5:W.heap.size<=B)(hS:ShpAt W)(hs:s.size<=9223372036854775000)(br:0<=n)(hn1:n<=8000000000000)(hK:∀ c,c<5->(K c).length<=4900000000000):
  Calls Tryz.prog 12 #[pt b, .string s]w(HzD W B b n K):=by
 have HH:=hZ h;have HW:=hZ hW;have HS:=hZ hS;have HK:=hZ hK;have aA:pt b= .pointer(some⟨b,0,none⟩):=rfl;have af:=hZ(vx s);have bi:=hZ(fun(u:World)(hu:W.grownBy u none)=>DL s u(HS.out.pres(ie hu))(by omega));have aY:=hZ(fun(u:World)=>xC s u hs);clear h hW hS hK;rw [aA];go_enter Tryz.func12,Tryz.ntmps12
 go_wp2_with fail
 refine(bi.out _ HW.out).mono ?_;clear bi;intro e w1 hD;obtain⟨bc,tv,sv,he,ao,ap⟩:=hD.form;clear hD;subst he;have aN:Hid(∀ u e u',RDec u s e u'->u.grownBy u' none/\∃ tv sv,e= .returned(.tuple #[.agg #[tv,sv, .int .i64(jL s).1.ver.1, .int .i64(jL s).1.ver.2.1, .int .i64(jL s).1.ver.2.2], .int .i64(jL s).2])/\ProgAt u'(.agg #[tv])(jL s).1.prog/\IntsAt u'.heap.size u' sv(jL s).1.sch):=fun u e u' h=>h.form
 generalize jL s=D at*;obtain⟨⟨p,sc,k0,k1,k2⟩,ce⟩:=D;simp only at ao ap aN af;obtain⟨t1,t2,t3,rfl⟩:=iq ao.choose_spec.1;obtain⟨s1,s2,s3,rfl⟩:=iq ap;have bz:=iy ao.choose_spec.1;have bq:=iy ap;subst bz bq;have a8:=hZ ao;have aS:=hZ ap;have aV:=hZ bc;clear ao ap bc;go_upto_region 2 with fail
 obtain⟨w2,ax⟩:∃ w2,w2=w1.alloc(.cells #[.slice t1 p.length t3, .slice s1 sc.length s3, .int .i64 k0, .int .i64 k1, .int .i64 k2]56):=⟨_,rfl⟩;have aW:Hid(w2.heap[w1.heap.size]?=some(.cells #[.slice t1 p.length t3, .slice s1 sc.length s3, .int .i64 k0, .int .i64 k1, .int .i64 k2]56(0,0))):=by unfold Hid;rw [ax];exact heap_alloc_new w1 _
 have aM:Hid(w1.grownBy w2 none):=by unfold Hid;rw [ax];exact ij(il _ _)
 rw [<-ax];clear ax;have aI:Hid(w.heap.size<=w1.heap.size/\w1.heap.size<w2.heap.size):=⟨aV.out.size,(Array.getElem?_eq_some_iff.1 aW.out).1⟩;generalize bd:w1.heap.size=n5 at*;have bb:=hZ bd;clear bd;go_wp2_with fail
 refine(aY.out w2).mono ?_;clear aY;intro e w3 hR;obtain⟨a9,rv,yv,he,aO,aD⟩:=aN.out _ _ _ hR;clear hR aN;subst he;obtain⟨ra,rc,aU⟩:=aO.form;simp only [Value.agg.injEq,Array.mk.injEq,List.cons.injEq,and_true]at aU;subst aU;obtain⟨ya,yc,rfl⟩:=aD.form;have aR:=hZ a9;have bj:=hZ aO;have bx:=hZ aD;clear a9 aO aD;go_upto_region 3 with fail
 obtain⟨w4,au⟩:∃ w4,w4=w3.alloc(.cells #[.slice ra p.length rc, .slice ya sc.length yc, .int .i64 k0, .int .i64 k1, .int .i64 k2]56):=⟨_,rfl⟩;have ba:Hid(w4.heap[w3.heap.size]?=some(.cells #[.slice ra p.length rc, .slice ya sc.length yc, .int .i64 k0, .int .i64 k1, .int .i64 k2]56(0,0))):=by unfold Hid;rw [au];exact heap_alloc_new w3 _
 have ad:Hid(w3.grownBy w4 none):=by unfold Hid;rw [au];exact ij(il _ _)
 rw [<-au];clear au;generalize a7:w3.heap.size=n7 at*;have bl:=hZ a7;clear a7;have ai:Hid(w2.grownBy w4 none):=ic aR.out ad.out;have ag:Hid(w1.grownBy w4 none):=ic aM.out ai.out;have aw:Hid(∀ u:World,w4.grownBy u none->(u.cell?⟨n5,0,none⟩=some(.slice t1 p.length t3)/\u.cell?⟨n5,1,none⟩=some(.slice s1 sc.length s3)/\u.cell?⟨n5,2,none⟩=some(.int .i64 k0)/\u.cell?⟨n5,3,none⟩=some(.int .i64 k1)/\u.cell?⟨n5,4,none⟩=some(.int .i64 k2))/\(u.cell?⟨n7,0,none⟩=some(.slice ra p.length rc)/\u.cell?⟨n7,1,none⟩=some(.slice ya sc.length yc)/\u.cell?⟨n7,2,none⟩=some(.int .i64 k0)/\u.cell?⟨n7,3,none⟩=some(.int .i64 k1)/\u.cell?⟨n7,4,none⟩=some(.int .i64 k2))):=fun u hu=>
  ⟨pQ(by rw [(ic ai.out hu).block n5 aI.out.2(by simp)];exact aW.out),pQ(by rw [hu.block n7(Array.getElem?_eq_some_iff.1 ba.out).1(by simp)];exact ba.out)⟩
 have bw:Hid(ProgAt w1(.agg #[.slice t1 p.length t3])p):=a8.out.progAt;have bg:=hZ(tZ p _ _ w4(bw.out.pres(ie ag.out))(bj.out.pres(ie ad.out))(by have:=af.out.1;omega)(fun c hc=>by have:=af.out.2.1 c hc;omega));obtain⟨⟨a0,a1,a2,a3,a4⟩,b0,b1,b2,b3,b4⟩:=aw.out w4(il _ _);clear a1 a2 a3 a4 b1 b2 b3 b4;go_wp2_with fail
 refine bg.out.mono ?_;clear bg a0 b0;rintro e w5⟨rfl,al⟩;have aC:=hZ al;have aQ:Hid(w1.grownBy w5 none):=ic ag.out al;have aE:=hZ(tt sc sc(.slice s1 sc.length s3)(.slice ya sc.length yc)w5(jw(iA aS.out aQ.out(fun _ e=>by cases e)))((bx.out.pres(ie(ic ad.out al))).mono(by have:=bl.out;have:=(ic ad.out al).size;omega))(by have:=af.out.2.2;omega));rw [show(sc==sc)=true by simp]at aE;obtain⟨⟨a0,a1,a2,a3,a4⟩,b0,b1,b2,b3,b4⟩:=aw.out w5 al;clear al a0 a2 a3 a4 b0 b2 b3 b4;go_wp2_with fail
 refine aE.out.mono ?_;clear aE a1 b1;rintro e w6⟨rfl,aZ⟩;have ab:Hid(w4.grownBy w6 none):=ic aC.out(iH aZ);have aa:Hid(w1.grownBy w6 none):=ic ag.out ab.out;have aq:Hid(w.grownBy w6 none):=ic aV.out aa.out;clear aZ;obtain⟨⟨a0,a1,a2,a3,a4⟩,b0,b1,b2,b3,b4⟩:=aw.out w6 ab.out;clear a1 b0 b1;go_upto_region 6 with(go_at_call 23;refine(DE _ _).mono ?_;rintro e w9⟨rfl,bo⟩;have aF:=bo.symm;subst aF)
 clear a2 a3 a4 b2 b3 b4;have hlow:B<=w.heap.size:=by have:=HH.out.1.1.dom b(by rw [HH.out.1.1.wb];simp);omega
 obtain⟨T,hTl,am⟩:=Fk a8.out(fun c hc=>by have:=af.out.2.1 c hc;omega);have hT4:T.length<=4:=by have:=af.out.1;omega
 have ac:∀ q,w.heap.size<=q->who q= .other:=fun q hq=>by
  by_cases ho:who q= .other
  ·exact ho
  ·exact absurd(HH.out.1.1.dom q ho).2(by omega)
 have aT:=hZ ac;have ak:=hZ am;have aP:=hZ(ur B w6 b who n f K(.slice t1 p.length t3)T(HH.out.1.grown aq.out)((am.grown aa.out).low(by omega))(fun q e=>ac q(by have:=iw am.row q e;omega))(fun x hx q e=>ac q(by have:=iw(am.el x hx).1 q e;omega))br(by omega)(by have:=HK.out 3(by omega);omega)(by have:=HK.out 4(by omega);omega)(by omega));rw [aA]at aP;clear am ac;go_wp2_with fail
 refine aP.out.mono ?_;clear aP a0;rintro e w7⟨⟨v7,rfl⟩,aj,f7,K7,aG,ay,bf,bv,bt,av⟩;have bn:Hid(W.grownBy w6 none):=ic HW.out aq.out;have aL:∀ q,((Value.slice t1 p.length t3).ownBlock=some q\/∃ x∈T,x.1.ownBlock=some q)->w.heap.size<=q/\q<n5:=fun q e=>by
  rcases e with e | ⟨x,hx,e⟩
  ·have h1:=iw ak.out.row q e;have h2:=iW ak.out.row q e;have:=bb.out;omega
  ·have h1:=iw(ak.out.el x hx).1 q e;have h2:=iW(ak.out.el x hx).1 q e;have:=bb.out;omega
 have bm:Hid(W.grownBy w7 none):=ay.base bn.out a5(fun g e=>(HH.out.1.1.dom g e).1)(fun q e=>by have:=(aL q e).1;have:=HW.out.size;omega);have aJ:n5<w6.heap.size:=by have:=aI.out.2;have:=(ic ai.out ab.out).size;omega
 have a1:w7.cell?⟨n5,1,none⟩=some(.slice s1 sc.length s3):=by
  rw [World.cell?_of_block(ay.oth n5 aJ(aT.out n5 aI.out.1)(fun e=>by have:=(aL n5 e).2;omega)).1];exact(aw.out w6 ab.out).1.2.1
 have ah:w6.ownsRow(w.heap.size+6)3 1(.slice s1 sc.length s3)sc.length(iI sc):=iA aS.out aa.out(fun _ e=>by cases e);have az:∀ q,(Value.slice s1 sc.length s3).ownBlock=some q->w7.heap[q]?=w6.heap[q]?/\aj q= .other:=fun q e=>by
  refine ay.oth q(iW ah q e)(aT.out q(by have:=iw ah q e;omega))(fun h=> ?_);rcases h with h | ⟨x,hx,h⟩
  ·exact pY ah(ak.out.grown aa.out).row(by decide)q e h
  ·exact pY ah((ak.out.grown aa.out).el x hx).1(by decide)q e h
 have bu:=hZ(fun q e=>(And.intro(iw ah q e)(az q e).2:w.heap.size+6<=q/\aj q= .other));have aB:=hZ(oB B w7 b aj(n+T.length+1)f7 K7(.slice s1 sc.length s3)sc.length _ aG(iN(iJ ah(fun q e=>(az q e).1))(by omega))(fun q e=>(az q e).2)(by omega)(by omega)(by rw [av 0(by omega)(by omega)];have:=HK.out 0(by omega);omega)(by have:=af.out.2.2;omega));rw [aA]at aB;have bA:=hZ aG;have a6:Hid(∀ c,c<5->(K7 c).length<=(K c).length+16/\(c=0->K7 c=K c)):=fun c hc=>by
  refine⟨?_,fun e=>av c(by omega)(by omega)⟩;by_cases e3:c=3
  ·subst e3;omega
  ·by_cases e4:c=4
   ·subst e4;omega
   ·rw [av c e3 e4];omega
 have bk:=hZ bf;clear aG ay bf bv bt av az ah aL;go_wp2_with fail
 refine aB.out.mono ?_;clear aB a1;rintro e w8⟨⟨v8,rfl⟩,ae,f8,K8,aK,ar⟩;have bp:Hid(W.grownBy w8 none):=ar.fr.base bm.out a5(fun g e=>(bA.out.1.dom g e).1)(fun q e=>by have:=(bu.out q e).1;have:=HW.out.size;omega);have bh:Hid(Hz B w8 b ae(n+T.length+1+1)f8 K8):=⟨aK,fun k hk=>by rw [ar.lent k hk,bk.out k hk];exact HH.out.2 k hk⟩;have aX:Hid(∀ c,c<5->(K8 c).length<=(K c).length+16):=fun c hc=>by
  by_cases e:c=0
  ·subst e;have:=ar.len;rw [(a6.out 0(by omega)).2 rfl]at this;omega
  ·rw [ar.oth c e];exact(a6.out c hc).1
 have aH:=hZ(qN B w8 b ae(n+T.length+1+1)f8 K8 aK(fun c hc=>by have:=aX.out c hc;have:=HK.out c hc;omega));rw [aA]at aH;clear aK ar;go_wp2_with fail
 refine aH.out.mono ?_;clear aH;rintro e w9⟨rfl,be⟩;have an:Hid(w8.grownBy w9 none):=iH be;clear be;go_wp2_with fail
 go_ret;exact⟨by simp,_,ae,f8,K8,by omega,by omega,⟨bh.out.1.grown an.out,bh.out.2⟩,ic bp.out an.out,aX.out⟩
end
section
open Go.RowKit
attribute [local go_sem] Go.World.cell?_alloc_some
theorem C1(n:Int)(w:World):Calls Tryz.prog 23 #[.int .i64 n]w fun e w'=>e= .returned(.int .i64 n)/\w'=w:=by
 go_enter Tryz.func23,Tryz.ntmps23
 go_wp2_with fail
 go_ret;exact⟨rfl,rfl⟩
def vr(l:List Int):ByteArray × Int:=if i8 l=true then(⟨(lU l).toArray⟩,0)else(⟨#[]⟩,2)
theorem xD {l:List Int} {e:Ending}(h:(i8 l=true/\e= .returned(.tuple #[.string⟨(lU l).toArray⟩, .int .i64 0]))\/(i8 l=false/\e= .returned(.tuple #[.string⟨#[]⟩, .int .i64 2]))):e= .returned(.tuple #[.string(vr l).1, .int .i64(vr l).2]):=by
 unfold vr;rcases h with⟨h,rfl⟩ | ⟨h,rfl⟩
 ·rw [if_pos h]
 ·rw [if_neg(by rw [h];simp)]
theorem AB(W:World)(B:Nat)(w:World)(b:Nat)(who:Nat->Role)(n:Int)(f:Nat->Value)(K:Nat->List(Value × Int))(lv:Value)(l:List Int)
  (h:Hz B w b who n f K)(hW:W.grownBy w none)(ai:W.heap.size<=B)(hT:Tab W)(hI:IntsAt W.heap.size W lv l)(hln:l.length<=1048576):
  Calls Tryz.prog 14 #[pt b,lv]w(HzE W B b n K w who):=by
 have HH:=hZ h;have HW:=hZ hW;have HT:=hZ hT;have HI:=hZ hI;obtain⟨ao,ae,rfl⟩:=hI.form;have aw:pt b= .pointer(some⟨b,0,none⟩):=rfl;have ad:=hZ(lZ B w b who n f K [] [] []0(.slice ao l.length ae)l h.lx((hI.pres(ie hW)).mono hW.size)(mC h.1 ai hI)(by omega)(by simp));clear h hW hT hI;rw [aw]at ad ⊢;go_enter Tryz.func14,Tryz.ntmps14
 go_wp2_with fail
 refine ad.out.mono ?_;clear ad;rintro e w1⟨gs,aa,f1,rfl,ab,ah⟩;simp only [List.nil_append]at ab;have am:Hid(W.grownBy w1 none):=ah.base HW.out ai(fun g e=>(HH.out.1.1.dom g e).1)(fun _ e=>e.elim);have ay:Hid(Fr w w1 who aa(fun g=>w.heap.size<=g)):=(Fr.refl _ _ _).step0 ah;have an:IntsAt w1.heap.size w1(.slice(some⟨gs,0,none⟩)l.length(l.length+2))l:=l9(ab.le.li(gs,l, .slice ao l.length ae)(by simp)).1;have ar:=hZ(Ei l _ w1(HT.out.grown am.out)an);have av:=hZ ab;clear ab ah an;go_wp2_with fail
 refine ar.out.mono ?_;clear ar;rintro e w2⟨ac,he⟩;obtain rfl:=xD he;clear he;have aA:=hZ ac;have aC:Hid(W.grownBy w2 none):=ic am.out ac;have af:=hZ(rl B w2 b aa n f1 K _ _ _(av.out.grown ac)(by simp)(by simp)(by simp));rw [aw]at af;clear ac;go_wp2_with fail
 refine af.out.mono ?_;clear af;rintro e w3⟨rfl,f3,au,al⟩;have ak:Hid(W.grownBy w3 none):=al.base aC.out ai(fun g e=>(av.out.hs.1.dom g e).1)(fun _ e=>e.elim);have aB:Hid(Fr w w3 who aa(fun g=>w.heap.size<=g)):=(ay.out.stepG aA.out).step0 al;have ax:=hZ au;have aq:=hZ(yX l(.slice ao l.length ae)w3((HI.out.pres(ie ak.out)).mono ak.out.size));clear au al;go_wp2_with fail
 refine aq.out.mono ?_;clear aq;rintro e w4⟨ap,he⟩;obtain rfl:=xD he;clear he;generalize vr l=PO at*;obtain⟨ps,pe⟩:=PO;have ag:=hZ ap;clear ap;go_wp2_with(go_at_call 23;refine(C1 _ _).mono ?_;rintro e w9⟨rfl,az⟩;have aj:=az.symm;subst aj)
 go_ret;exact⟨by simp,aa,f3,⟨ax.out.1.grown ag.out,ax.out.2⟩,ic ak.out ag.out,aB.out.stepG ag.out⟩
theorem CR(l:List Nat):(jJ l).out.length<=500:=by
 rw [qF];unfold lK;split
 ·simp
 ·cases jg(iY l)(-1) []with
  | none=>simp
  | some x=>
   simp only;split
   ·simp
   ·show x.1.length<=500
    omega
theorem Dd(W:World)(B:Nat)(w:World)(b:Nat)(who:Nat->Role)(n:Int)(f:Nat->Value)(K:Nat->List(Value × Int))(s:ByteArray)
  (h:Hz B w b who n f K)(hW:W.grownBy w none)(aH:W.heap.size<=B)(hs:s.size<=1048576)(aJ:0<=n)(hn1:n<=9000000000000)(hK:∀ c,c<5->(K c).length<=4900000000000):
  Calls Tryz.prog 13 #[pt b, .string s]w(HzG W B b(n+1)K):=by
 have HH:=hZ h;have HW:=hZ hW;have HK:=hZ hK;have ao:pt b= .pointer(some⟨b,0,none⟩):=rfl;have az:=hZ(CR(byt s));clear h hW hK;rw [ao];go_enter Tryz.func13,Tryz.ntmps13
 go_wp2_with fail
 refine(Eg s w(by omega)).mono ?_;rintro e w1⟨x,y,z,rfl,ay,ax⟩;have aB:=hZ ax;have aF:=hZ ay;clear ax ay;have ak:=hZ(zt s w1 hs);rw [<-qF]at ak;generalize hp:jJ(byt s)=p at*;obtain⟨out,at_,ok⟩:=p;simp only at*;clear hp;go_wp2_with(go_at_call 46;refine ak.out.mono ?_)
 clear ak;rintro e w2⟨x',y',z',rfl,ah,an⟩;have aE:Hid(w.grownBy w2 none):=ic aB.out an;have aa:w2.ownsRow(w.heap.size+1)3 1(.slice x y z)out.length(iI out):=iA aF.out an(fun _ e=>by cases e);have aC:=iy aa;have ai:=iy ah;subst aC;subst ai;have aj:=hZ(tt out out _ _ w2(jw aa)(jw ah)(by have:=az.out;omega));rw [show(out==out)=true by simp]at aj;have ac:=hZ aa;simp only [GN];generalize Gm ok=pe at*;clear aa ah an;go_wp2_with(go_at_call 30;refine aj.out.mono ?_)
 clear aj;rintro e w3⟨rfl,ap⟩;have ar:Hid(w.grownBy w3 none):=jd aE.out ap;have ag:∀ q,(Value.slice x out.length z).ownBlock=some q->w.heap.size+1<=q/\who q= .other:=fun q e=>by
  have h1:=iw ac.out q e;refine⟨h1, ?_⟩;by_cases ho:who q= .other
  ·exact ho
  ·exact absurd(HH.out.1.1.dom q ho).2(by omega)
 have aG:=hZ ag;have hlow:B<=w.heap.size:=by have:=(HH.out.1.1.dom b(by rw [HH.out.1.1.wb];simp));omega
 have aw:w3.ownsRow B 3 1(.slice x out.length z)out.length(iI out):=iN(iA ac.out(iH(r:=none)ap)(fun _ e=>by cases e))(by omega);have aq:=hZ(oB B w3 b who n f K(.slice x out.length z)out.length _(HH.out.1.grown ar.out)aw(fun q e=>(ag q e).2)aJ(by omega)(by have:=HK.out 0(by omega);omega)(by have:=az.out;omega));rw [ao]at aq;clear aw ap ag;go_wp2_with(go_at_call 31;refine aq.out.mono ?_)
 clear aq;rintro e w4⟨⟨rv,rfl⟩,ab,f4,K4,am,ae⟩;have aI:Hid(W.grownBy w4 none):=ae.fr.base(ic HW.out ar.out)aH(fun g e=>(HH.out.1.1.dom g e).1)(fun q e=>by have:=(aG.out q e).1;have:=HW.out.size;omega);have au:Hid(Hz B w4 b ab(n+1)f4 K4):=⟨am,fun k hk=>by rw [ae.lent k hk];exact HH.out.2 k hk⟩;have av:Hid(∀ c,c<5->(K4 c).length<=(K c).length+4):=fun c hc=>by
  by_cases e:c=0
  ·subst e;have:=ae.len;omega
  ·rw [ae.oth c e];omega
 have af:=hZ(qN B w4 b ab(n+1)f4 K4 am(fun c hc=>by have:=av.out c hc;have:=HK.out c hc;omega));clear am ae;rw [ao]at af;go_wp2_with(go_at_call 27;refine af.out.mono ?_)
 clear af;rintro e w5⟨rfl,aA⟩;have ad:Hid(w4.grownBy w5 none):=iH aA;clear aA;go_wp2_with(go_at_call 23;refine(C1 _ _).mono ?_;rintro e w9⟨rfl,aD⟩;have al:=aD.symm;subst al)
 go_ret;exact⟨by simp,ab,f4,K4,⟨au.out.1.grown ad.out,au.out.2⟩,ic aI.out ad.out,av.out⟩
end
section
open Go.RowKit
def f00:Nat->Value:=fun k=>if k=5 then .int .i64 0 else .slice none 0 0
theorem Hz.start {w:World} {b:Nat}(h:w.heap[b]?=some(.cells(hcl f00)45(0,0))):Hz b w b(setW(fun _=> .other)b .hands)0 f00(fun _=> []):=by
 have aa:∀ k,k≠5->f00 k= .slice none 0 0:=fun k hk=>by unfold f00;rw [if_neg hk]
 refine⟨⟨⟨h,rfl,fun c hc=> ?_,fun c hc=> ?_,fun c hc g e=> ?_,fun c hc g e=> ?_,jz _ _ _,fun c hc x hx=>(by cases hx),fun g e=> ?_⟩,fun c hc x hx=>(by cases hx)⟩,fun k hk=>aa k(by omega)⟩
 ·rw [aa _(by omega)];exact⟨rfl,Or.inl⟨rfl,rfl⟩⟩
 ·rw [aa _(by omega)];exact⟨rfl,Or.inl⟨rfl,rfl⟩⟩
 ·rw [aa _(by omega)]at e;cases e
 ·rw [aa _(by omega)]at e;cases e
 ·by_cases e2:g=b
  ·subst e2;exact⟨Nat.le_refl _,(Array.getElem?_eq_some_iff.1 h).1⟩
  ·rw [iK _ _ e2]at e;exact absurd rfl e
end
section
open Go.RowKit
def HX(W:World)(B b q:Nat)(w:World)(X:Nat->Prop):Prop:=∃ who n f K,Hz B w b who n f K/\W.grownBy w none/\0<=n/\n<=(q:Int)/\(∀ c,c<5->(K c).length<=q)/\∀ g,X g->g<w.heap.size/\who g= .other
def Tru(W:World)(B b q:Nat)(w:World)(X:Nat->Prop)(e:Ending)(w':World):Prop:=e= .returned(.bool true)/\HX W B b q w' X/\∀ g,X g->w'.heap[g]?=w.heap[g]?
theorem HX.grown {W w w':World} {B b q:Nat} {X:Nat->Prop}(h:HX W B b q w X)(hg:w.grownBy w' none):HX W B b q w' X:=by
 obtain⟨who,n,f,K,h1,h2,h3,h4,h5,h6⟩:=h;exact⟨who,n,f,K,⟨h1.1.grown hg,h1.2⟩,ic h2 hg,h3,h4,h5,fun g hx=>⟨Nat.lt_of_lt_of_le(h6 g hx).1 hg.size,(h6 g hx).2⟩⟩
theorem HX.mono {W w:World} {B b q q':Nat} {X:Nat->Prop}(h:HX W B b q w X)(hq:q<=q'):HX W B b q' w X:=by
 obtain⟨who,n,f,K,h1,h2,h3,h4,h5,h6⟩:=h;exact⟨who,n,f,K,h1,h2,h3,by omega,fun c hc=>Nat.le_trans(h5 c hc)hq,h6⟩
theorem HX.less {W w:World} {B b q:Nat} {X Y:Nat->Prop}(h:HX W B b q w X)(hy:∀ g,Y g->X g):HX W B b q w Y:=by
 obtain⟨who,n,f,K,h1,h2,h3,h4,h5,h6⟩:=h;exact⟨who,n,f,K,h1,h2,h3,h4,h5,fun g hg=>h6 g(hy g hg)⟩
theorem HX.made {W w:World} {B b q:Nat} {X:Nat->Prop}(h:HX W B b q w X)(o:Obj):HX W B b q(w.alloc o)(fun g=>X g\/g=w.heap.size):=by
 obtain⟨who,n,f,K,h1,h2,h3,h4,h5,h6⟩:=h;have hg:w.grownBy(w.alloc o)none:=ij(il _ _);refine⟨who,n,f,K,⟨h1.1.grown hg,h1.2⟩,ic h2 hg,h3,h4,h5,fun g hx=> ?_⟩;rcases hx with hx | rfl
 ·exact⟨Nat.lt_of_lt_of_le(h6 g hx).1 hg.size,(h6 g hx).2⟩
 ·refine⟨by simp, ?_⟩;by_cases ho:who w.heap.size= .other
  ·exact ho
  ·exact absurd(h1.1.1.dom _ ho).2(by omega)
theorem HX.base {W w:World} {B b q:Nat} {X:Nat->Prop}(h:HX W B b q w X):W.grownBy w none:=by
 obtain⟨_,_,_,_,_,h2,_⟩:=h;exact h2
theorem HX.start {W w:World}(h:w.heap[W.heap.size]?=some(.cells(hcl f00)45(0,0)))(hg:W.grownBy w none):HX W W.heap.size W.heap.size 0 w(fun _=>False):=
 ⟨_,_,_,_,Hz.start h,hg,Int.le_refl _,Int.le_refl _,fun _c _=>Nat.le_refl _,fun _ e=>e.elim⟩
section
variable {W w : World} {B b q : Nat} {X : Nat -> Prop} {pv sv tv : Value} {p : List (List Ins)} {s t : List Int}
theorem yP(h:HX W B b q w X)(hq:q<=4800000000000)(ab:W.heap.size<=B)(hS:ShpAt W)(hP:ProgAt W pv p)(hI:IntsAt W.heap.size W sv s)(hpl:p.length<=1048576)(ac:∀ c∈p,c.length<=1048576)(hsl:s.length<=1048576):
  Calls Tryz.prog 6 #[pt b,pv,sv]w(Tru W B b(q+4)w X):=by
 obtain⟨who,n,f,K,h1,h2,h3,h4,h5,h6⟩:=h;refine(yK W B w b who n f K pv sv p s h1 h2 ab hS hP hI(by omega)(fun c hc=>by have:=ac c hc;omega)(by omega)h3(by omega)(fun c hc=>by have:=h5 c hc;omega)).mono ?_;rintro e w'⟨he,aa,f',K',g1,g2,g3,g4⟩;have hx:=fun g hg=>g4.oth g(h6 g hg).1(h6 g hg).2(by have:=(h6 g hg).1;omega)
 exact⟨he,⟨aa,_,f',K',g1,g2,by omega,by omega,fun c hc=>by have:=g3 c hc;have:=h5 c hc;omega,fun g hg=>⟨Nat.lt_of_lt_of_le(h6 g hg).1 g4.size,(hx g hg).2⟩⟩,fun g hg=>(hx g hg).1⟩
theorem CG(h:HX W B b q w X)(hq:q<=4800000000000)(ab:W.heap.size<=B)(hS:ShpAt W)(hP:ProgAt W pv p)(hI:IntsAt W.heap.size W sv s)(hpl:p.length<=1048576)(ac:∀ c∈p,c.length<=1048576)(hsl:s.length<=1048576):
  Calls Tryz.prog 7 #[pt b,pv,sv]w(Tru W B b(q+4)w X):=by
 obtain⟨who,n,f,K,h1,h2,h3,h4,h5,h6⟩:=h;refine(Dj W B w b who n f K pv sv p s h1 h2 ab hS hP hI(by omega)(fun c hc=>by have:=ac c hc;omega)(by omega)h3(by omega)(fun c hc=>by have:=h5 c hc;omega)).mono ?_;rintro e w'⟨he,aa,f',K',g1,g2,g3,g4⟩;have hx:=fun g hg=>g4.oth g(h6 g hg).1(h6 g hg).2(by have:=(h6 g hg).1;omega)
 exact⟨he,⟨aa,_,f',K',g1,g2,by omega,by omega,fun c hc=>by have:=g3 c hc;have:=h5 c hc;omega,fun g hg=>⟨Nat.lt_of_lt_of_le(h6 g hg).1 g4.size,(hx g hg).2⟩⟩,fun g hg=>(hx g hg).1⟩
theorem wV {fuel:Int}(h:HX W B b q w X)(hq:q<=4800000000000)(ac:W.heap.size<=B)(hS:ShpAt W)(hP:ProgAt W pv p)(hI:IntsAt W.heap.size W sv s)(aa:oH sv)(ae:fuel<=9223372036854775807)(hpl:p.length<=1048576)(ad:∀ c∈p,c.length<=1048576)(hsl:s.length<=1048576):
  Calls Tryz.prog 8 #[pt b,pv,sv, .int .i64 fuel]w(Tru W B b(q+4)w X):=by
 obtain⟨who,n,f,K,h1,h2,h3,h4,h5,h6⟩:=h;refine(yl W B w b who n f K pv sv p s fuel h1 h2 ac hS hP hI aa ae(by omega)(fun c hc=>by have:=ad c hc;omega)(by omega)h3(by omega)(fun c hc=>by have:=h5 c hc;omega)).mono ?_;rintro e w'⟨he,ab,f',K',g1,g2,g3,g4⟩;have hx:=fun g hg=>g4.oth g(h6 g hg).1(h6 g hg).2(by have:=(h6 g hg).1;omega)
 exact⟨he,⟨ab,_,f',K',g1,g2,by omega,by omega,fun c hc=>by have:=g3 c hc;have:=h5 c hc;omega,fun g hg=>⟨Nat.lt_of_lt_of_le(h6 g hg).1 g4.size,(hx g hg).2⟩⟩,fun g hg=>(hx g hg).1⟩
theorem zf(h:HX W B b q w X)(ab:W.heap.size<=B)(hS:ShpAt W)(hP:ProgAt W pv p)(hI:IntsAt W.heap.size W sv s)(hpl:p.length<=1048576)(ac:∀ c∈p,c.length<=1048576)(hsl:s.length<=1048576)(hJ:IntsAt W.heap.size W tv t)(htl:t.length<=1048576):
  Calls Tryz.prog 9 #[pt b,pv,sv,tv]w(Tru W B b q w X):=by
 obtain⟨who,n,f,K,h1,h2,h3,h4,h5,h6⟩:=h;refine(yD W B w b who n f K pv sv tv p s t h1 h2 ab hS hP hI((hJ.pres(ie h2)).mono h2.size)(mC h1.1 ab hJ)(by omega)(fun c hc=>by have:=ac c hc;omega)(by omega)(by omega)).mono ?_;rintro e w'⟨he,aa,f',g1,g2,g4⟩;have hx:=fun g hg=>g4.oth g(h6 g hg).1(h6 g hg).2(by have:=(h6 g hg).1;omega)
 exact⟨he,⟨aa,_,f',K,g1,g2,h3,h4,h5,fun g hg=>⟨Nat.lt_of_lt_of_le(h6 g hg).1 g4.size,(hx g hg).2⟩⟩,fun g hg=>(hx g hg).1⟩
theorem Bm {rv:Value} {k0 k1 k2:Int}(h:HX W B b q w X)(ac:W.heap.size<=B)(hS:ShpAt W)(hP:ProgAt W(.agg #[rv])p)(hI:IntsAt W.heap.size W sv s)(hpl:p.length<=1048576)(ad:∀ c∈p,c.length<=1048576)(hsl:s.length<=1048576)(ab:∀ c∈p,∀ i∈c,CT i):
  Calls Tryz.prog 11 #[pt b, .agg #[rv,sv, .int .i64 k0, .int .i64 k1, .int .i64 k2]]w(Tru W B b q w X):=by
 obtain⟨who,n,f,K,h1,h2,h3,h4,h5,h6⟩:=h;refine(Bp W B w b who n f K rv sv p s k0 k1 k2 h1 h2 ac hS hP hI(by omega)(fun c hc=>by have:=ad c hc;omega)(by omega)ab).mono ?_;rintro e w'⟨he,aa,f',g1,g2,g4⟩;have hx:=fun g hg=>g4.oth g(h6 g hg).1(h6 g hg).2(by have:=(h6 g hg).1;omega)
 exact⟨he,⟨aa,_,f',K,g1,g2,h3,h4,h5,fun g hg=>⟨Nat.lt_of_lt_of_le(h6 g hg).1 g4.size,(hx g hg).2⟩⟩,fun g hg=>(hx g hg).1⟩
theorem AA {x:ByteArray}(h:HX W B b q w X)(hq:q<=4800000000000)(ab:W.heap.size<=B)(hS:ShpAt W)(hx:x.size<=9223372036854775000):
  Calls Tryz.prog 12 #[pt b, .string x]w(Tru W B b(q+16)w(fun _=>False)):=by
 obtain⟨who,n,f,K,h1,h2,h3,h4,h5,_⟩:=h;refine(AD W B w b who n f K x h1 h2 ab hS hx h3(by omega)(fun c hc=>by have:=h5 c hc;omega)).mono ?_;rintro e w'⟨he,n',aa,f',K',g0,g0',g1,g2,g3⟩;exact⟨he,⟨aa,n',f',K',g1,g2,by omega,by omega,fun c hc=>by have:=g3 c hc;have:=h5 c hc;omega,fun _ e=>e.elim⟩,fun _ e=>e.elim⟩
theorem AK(h:HX W B b q w X)(ab:W.heap.size<=B)(hT:Tab W)(hI:IntsAt W.heap.size W sv s)(ac:s.length<=1048576):
  Calls Tryz.prog 14 #[pt b,sv]w(Tru W B b q w(fun _=>False)):=by
 obtain⟨who,n,f,K,h1,h2,h3,h4,h5,_⟩:=h;refine(AB W B w b who n f K sv s h1 h2 ab hT hI ac).mono ?_;rintro e w'⟨he,aa,f',g1,g2,_⟩;exact⟨he,⟨aa,_,f',K,g1,g2,h3,h4,h5,fun _ e=>e.elim⟩,fun _ e=>e.elim⟩
theorem DN {x:ByteArray}(h:HX W B b q w X)(hq:q<=4800000000000)(ab:W.heap.size<=B)(hx:x.size<=1048576):
  Calls Tryz.prog 13 #[pt b, .string x]w(Tru W B b(q+16)w(fun _=>False)):=by
 obtain⟨who,n,f,K,h1,h2,h3,h4,h5,_⟩:=h;refine(Dd W B w b who n f K x h1 h2 ab hx h3(by omega)(fun c hc=>by have:=h5 c hc;omega)).mono ?_;rintro e w'⟨he,aa,f',K',g1,g2,g3⟩;exact⟨he,⟨aa,_,f',K',g1,g2,by omega,by omega,fun c hc=>by have:=g3 c hc;have:=h5 c hc;omega,fun _ e=>e.elim⟩,fun _ e=>e.elim⟩
end
end
section
def yS(x:Value):Prop:=∀ n c,x= .slice none n c->n=0/\c=0
def D7(W:World)(pv:Value):Prop:=∀ g o n cap t rv,pv= .agg #[.slice(some⟨g,o,none⟩)n cap]->t<n->W.cell?⟨g,o+t,none⟩=some rv->yS rv
end
section
open Go.ChangeShapes Go.WideShapes Go.ChangeAt Go.RowKit
theorem own:ownKnob Tryz.prog.godebug=none:=by kernel_rfl
theorem qU:laidOutB Tryz.prog=true:=by kernel_rfl
theorem GV:Tryz.prog.globalNamed "rerun/machine.shapes" =some 0:=by kernel_rfl
theorem GU:(Tryz.prog.globals[0]?).map(·.type)=some 236:=by kernel_rfl
theorem GB:Tryz.prog.cellsOf 3=1:=by kernel_rfl
theorem GA:Tryz.prog.cellsOf 39=1:=by kernel_rfl
theorem FS:Tryz.prog.cellsOf 235=3:=by kernel_rfl
theorem Cw:Tryz.prog.cellsOf 233=1:=by kernel_rfl
theorem wI {w w':World}(h:w.grownBy w' none):Below w.heap.size w w':=⟨h.os,h.tape,h.output,h.size,fun k hk=>h.block k hk(by simp)⟩
theorem ED {w:World} {a:Addr} {v:Value}(h:w.cell? a=some v):a.block<w.heap.size:=by
 unfold World.cell? at h;split at h
 ·rename_i hh;exact(Array.getElem?_eq_some_iff.1 hh).1
 ·cases h
theorem kJ {w:World} {a:Addr} {j:Nat} {v:Value}(h0:a.spot=none)(h:w.cell?(a.add j)=some v):w.cell?⟨a.block,a.off+j,none⟩=some v:=by
 have e:a.add j=⟨a.block,a.off+j,none⟩:=by
  obtain⟨b,o,s⟩:=a;simp only at h0;subst h0;unfold Addr.add;split<;>simp_all
 rw [e]at h;exact h
section
variable {H : Type} {enc : TypeId × Value -> H} {W : World}
theorem ER {v:Value} {d:DataW H} {ps:List MemPlace} {base:Nat}(aa:Value.okWide Tryz.prog W .any base 3 v)(h:DataW.Trod enc Tryz.prog W 0(fun _=>true)true 3 v d ps):
  ∃ n,v= .int .i64 n/\oZ n:=by
 obtain⟨n,rfl,_,_,hw⟩:=open_int Tryz.underlying3 aa h;exact⟨n,rfl,by simpa [Lit.wf,IntKind.min,IntKind.max,IntKind.signed,IntKind.bits,oZ]using hw⟩
end
theorem EY(o j:Nat)(ho:o<12)(hj:j<3)(l:List(DataW Unit))(h:(DataW.agg l:DataW Unit)=(match(Rows.laid_rerun_machine_shapes:DataW Unit)with | .agg l=>l[o]?.getD .nil | _=> .nil)):l[j]?=some(.lit(.int .i64(shp o j))):=by
 have ab:o=0\/o=1\/o=2\/o=3\/o=4\/o=5\/o=6\/o=7\/o=8\/o=9\/o=10\/o=11:=by omega
 have aa:j=0\/j=1\/j=2:=by omega
 rcases ab with rfl | rfl | rfl | rfl | rfl | rfl | rfl | rfl | rfl | rfl | rfl | rfl<;>(simp [Rows.laid_rerun_machine_shapes]at h;subst h;rcases aa with rfl | rfl | rfl<;>rfl)
theorem ES {W:World} {g0:Nat} {t0:TypeId} {ab:Array Value} {f0:Nat} {p0:List MemPlace}(ai:Tryz.prog.globalNamed "rerun/machine.shapes" =some g0)(am:(Tryz.prog.globals[g0]?).map(·.type)=some t0)(an:W.var? Tryz.prog "rerun/machine.shapes" =some ab)
  (aq:DataW.trod(fun _=>())Tryz.prog W 0(fun _=>true)false f0 t0 ab.toList=some(Rows.laid_rerun_machine_shapes,p0)):ShpAt W:=by
 obtain rfl:=Option.some.inj(GV.symm.trans ai);obtain rfl:=Option.some.inj(GU.symm.trans am);obtain⟨xs,m1,rfl,ag,hlen,hn12,ap⟩:=DataW.trod_array Tryz.underlying236 aq;simp only [Prod.mk.injEq]at ag;intro o j ho hj;have af:o<xs.length:=by omega
 have h1:=ap o ho;rw [FS,List.getElem?_eq_getElem af]at h1;obtain⟨ys,m2,rfl,aj,hylen,ak,ad⟩:=DataW.trod_struct Tryz.underlying235 h1;have ao:(DataW.agg(ys.map(·.1)):DataW Unit)=xs[o].1:=by rw [aj]
 have hxo:(xs.map(·.1))[o]?=some xs[o].1:=by simp [af]
 have ae:(DataW.agg(ys.map(·.1)):DataW Unit)=(match(Rows.laid_rerun_machine_shapes:DataW Unit)with | .agg l=>l[o]?.getD .nil | _=> .nil):=by
  rw [ao,ag.1];simp [af]
 have ah:=EY o j ho hj _ ae;have ac:j<ys.length:=by rw [ak];simpa using hj
 have hf:DataW.trod(fun _=>())Tryz.prog W 0(fun _=>true)false m2 233((((ab.toList.drop(o*3)).take 3).drop j).take 1)=some ys[j]:=by
  have al:j=0\/j=1\/j=2:=by omega
  rcases al with rfl | rfl | rfl
  ·have:=ad 0 _ rfl;rw [List.getElem?_eq_getElem ac]at this;simpa [Cw]using this
  ·have:=ad 1 _ rfl;rw [List.getElem?_eq_getElem ac]at this;simpa [Cw]using this
  ·have:=ad 2 _ rfl;rw [List.getElem?_eq_getElem ac]at this;simpa [Cw]using this
 obtain⟨k,e1,e2,_⟩:=DataW.trod_int Tryz.underlying233 hf;have hk:k=shp o j:=by
  rw [List.getElem?_map,List.getElem?_eq_getElem ac,e2]at ah;simpa using ah
 have aa:=World.var?_cell ai an(o*3+j);have hc:ab[o*3+j]?=some(.int .i64 k):=by
  have h0:=congrArg(fun l=>l[0]?)e1;simp [hj]at h0;exact h0
 rw [hk]at hc;rw [aa];exact hc
end
section
open Go.ChangeShapes Go.WideShapes Go.ChangeAt Go.RowKit Go.Joins
theorem Ao {H:Type}(d:DataW H):1<=Rows.uptoBulk d:=by
 cases d with
 | lit l=>cases l<;>simp [Rows.uptoBulk]
 | nil=>simp [Rows.uptoBulk]
 | ptr d=>simp [Rows.uptoBulk]
 | slice elems spare=>simp [Rows.uptoBulk]
 | agg parts=>simp [Rows.uptoBulk]
 | iface t d=>simp [Rows.uptoBulk]
 | map entries=>simp [Rows.uptoBulk]
 | held h=>simp [Rows.uptoBulk]
theorem ql {H:Type}(l:List(DataW H)):l.length<=Rows.uptoBulkAll l:=by
 induction l with
 | nil=>simp [Rows.uptoBulkAll]
 | cons x r ih=>have:=Ao x;simp only [Rows.uptoBulkAll,List.length_cons];omega
theorem wn {H:Type}(l:List(DataW H))(d:DataW H)(h:d∈l):Rows.uptoBulk d<=Rows.uptoBulkAll l:=by
 induction l with
 | nil=>cases h
 | cons x r ih=>
  simp only [Rows.uptoBulkAll];rcases List.mem_cons.1 h with rfl | h
  ·omega
  ·have:=ih h;omega
theorem GR:Tryz.prog.cellsOf 65=4:=by kernel_rfl
theorem Gx:Tryz.prog.cellsOf 66=1:=by kernel_rfl
theorem GM:Tryz.prog.cellsOf 35=1:=by kernel_rfl
theorem GC:Tryz.prog.cellsOf 37=1:=by kernel_rfl
section
variable {H : Type} {enc : TypeId × Value -> H} {W : World}
theorem Gg {fuel:Nat} {cs:List Value} {x:DataW H × List MemPlace}(h:DataW.trod enc Tryz.prog W 0(fun _=>true)true fuel 65 cs=some x):∃ i:Ins,cs= [.int .i64 i.op, .int .i64 i.a, .int .i64 i.b, .int .i64 i.n]/\oZ i.n:=by
 obtain⟨y0,y1,y2,y3,n,_,hl,h0,h1,h2,h3⟩:=trod_struct4 Tryz.underlying65 h;rw [GR]at hl;match cs,hl with
 | [v0,v1,v2,v3],_=>
  simp only [GB,List.drop_zero,List.drop_succ_cons,List.take_succ_cons,List.take_zero]at h0 h1 h2 h3;obtain⟨k0,e0,_⟩:=DataW.trod_int Tryz.underlying3 h0;obtain⟨k1,e1,_⟩:=DataW.trod_int Tryz.underlying3 h1;obtain⟨k2,e2,_⟩:=DataW.trod_int Tryz.underlying3 h2;obtain⟨k3,e3,_,aa⟩:=DataW.trod_int Tryz.underlying3 h3;simp only [List.cons.injEq,and_true]at e0 e1 e2 e3;subst e0 e1 e2 e3;exact⟨⟨k0,k1,k2,k3⟩,rfl,by simpa [Lit.wf,IntKind.min,IntKind.max,IntKind.signed,IntKind.bits,oZ]using aa⟩
theorem AW {fuel:Nat} {v:Value} {x:DataW H × List MemPlace}(h:DataW.trod enc Tryz.prog W 0(fun _=>true)true fuel 66 [v]=some x):∃ c,CodeAt W v c/\yS v/\c.length<=Rows.uptoBulk x.1/\∀ i∈c,oZ i.n:=by
 rcases Deep.open_slice Tryz.underlying66 h with⟨e,_⟩ | ⟨a,len,cap,m,n,D,Pl,e,_,hl,_,hm,hx,hel⟩
 ·simp only [List.cons.injEq,and_true]at e;subst e;exact⟨[],⟨none,0,rfl,fun k hk=>by simp at hk⟩,fun n c e=>by simp at e;omega,by simp,fun i hi=>by cases hi⟩
 ·simp only [List.cons.injEq,and_true]at e;subst e;simp only [if_true]at hm;rw [GR]at hel;have hinh:Inhabited Ins:=⟨⟨0,0,0,0⟩⟩;obtain⟨f,hf⟩:=Deep.choose_lt(α:=Ins)(n:=len)(p:=fun k i=>W.cell?(a.add(k*4))=some(.int .i64 i.op)/\W.cell?(a.add(k*4+1))=some(.int .i64 i.a)/\W.cell?(a.add(k*4+2))=some(.int .i64 i.b)/\W.cell?(a.add(k*4+3))=some(.int .i64 i.n)/\oZ i.n)(fun k hk=>by
   obtain⟨cs',h1,h2⟩:=hel k(by omega);obtain⟨i,rfl,ac⟩:=Gg h2;obtain⟨_,_,h3⟩:=World.cells?_some h1;refine⟨i, ?_, ?_, ?_, ?_,ac⟩
   ·have:=h3 0(by omega);rw [Deep.add_add]at this;simpa using this
   ·have:=h3 1(by omega);rw [Deep.add_add]at this;simpa using this
   ·have:=h3 2(by omega);rw [Deep.add_add]at this;simpa using this
   ·have:=h3 3(by omega);rw [Deep.add_add]at this;simpa using this)
  have aa:((List.range len).map f).length=len:=by simp
  refine⟨(List.range len).map f,⟨some a,cap,by rw [aa],fun k hk=> ?_⟩,fun n c e=>by simp at e, ?_,fun i hi=> ?_⟩
  ·have ab:k<len:=by omega
   obtain⟨h0,h1,h2,h3,_⟩:=hf k ab;have hs:a.spot=none:=by
    have:=(hf 0(by omega)).1;exact World.cell?_spot(w:=W)(by simpa [Addr.add]using this)
   refine⟨a.block,a.off, ?_, ?_, ?_, ?_, ?_⟩
   ·obtain⟨b,o,s⟩:=a;simp only at hs;subst hs;rfl
   ·simpa using kJ hs h0
   ·simpa [Nat.add_assoc]using kJ hs h1
   ·simpa [Nat.add_assoc]using kJ hs h2
   ·simpa [Nat.add_assoc]using kJ hs h3
  ·rw [aa,hx];have:=ql((List.range len).map D);simp only [Rows.uptoBulk];simp at this;omega
  ·obtain⟨k,hk,rfl⟩:=List.mem_map.1 hi;exact(hf k(by simpa using hk)).2.2.2.2
theorem AS {fuel:Nat} {v:Value} {x:DataW H × List MemPlace}(h:DataW.trod enc Tryz.prog W 0(fun _=>true)true fuel 35 [v]=some x):
  ∃ p,ProgAt W(.agg #[v])p/\D7 W(.agg #[v])/\p.length<=Rows.uptoBulk x.1/\∀ c∈p,c.length<=Rows.uptoBulk x.1/\∀ i∈c,oZ i.n:=by
 rcases Deep.open_slice1 Tryz.underlying35 Gx h with⟨e,_⟩ | ⟨a,len,cap,m,n,V,D,Pl,e,_,hl,_,hm,hx,hel⟩
 ·simp only [List.cons.injEq,and_true]at e;subst e;exact⟨[],⟨none,0,rfl,fun k hk=>by simp at hk⟩,fun g o n cap t rv e=>by simp at e,by simp,fun c hc=>by cases hc⟩
 ·simp only [List.cons.injEq,and_true]at e;subst e;simp only [if_true]at hm;obtain⟨f,hf⟩:=Deep.choose_lt(α:=List Ins)(n:=len)(p:=fun k c=>CodeAt W(V k)c/\yS(V k)/\c.length<=Rows.uptoBulk(D k)/\∀ i∈c,oZ i.n)(fun k hk=>AW(hel k(by omega)).2);have aa:((List.range len).map f).length=len:=by simp
  have hs:0<len->a.spot=none:=fun h0=>by
   have:=(hel 0(by omega)).1;exact World.cell?_spot(w:=W)(by simpa [Addr.add]using this)
  have hall:len+0<=Rows.uptoBulkAll((List.range len).map D):=by
   have:=ql((List.range len).map D);simp at this;omega
  refine⟨(List.range len).map f,⟨some a,cap,by rw [aa],fun k hk=> ?_⟩,fun g o n cp t rv e ht hc=> ?_, ?_,fun c hc=> ?_⟩
  ·have ab:k<len:=by omega
   have h0:=hs(by omega);refine⟨a.block,a.off, ?_,V k,kJ h0(hel k(by omega)).1, ?_⟩
   ·obtain⟨b,o,s⟩:=a;simp only at h0;subst h0;rfl
   ·simpa using(hf k ab).1
  ·simp only [Value.agg.injEq,Array.mk.injEq,List.cons.injEq,Value.slice.injEq,Option.some.injEq,and_true]at e;obtain⟨rfl,rfl,rfl⟩:=e;have h1:=kJ rfl(hel t(by omega)).1;simp only at h1;rw [h1]at hc;simp only [Option.some.injEq]at hc;rw [<-hc];exact(hf t ht).2.1
  ·rw [aa,hx];simp only [Rows.uptoBulk];omega
  ·obtain⟨k,hk,rfl⟩:=List.mem_map.1 hc;have ab:k<len:=by simpa using hk
   obtain⟨h1,h3⟩:=(hf k ab).2.2;have h2:=wn((List.range len).map D)(D k)(List.mem_map.2⟨k,hk,rfl⟩);refine⟨?_,h3⟩;rw [hx];simp only [Rows.uptoBulk];omega
end
end
section
open Go.ChangeShapes Go.WideShapes Go.ChangeAt Go.RowKit Go.Joins
section
variable {H : Type} {enc : TypeId × Value -> H} {W : World}
theorem DD {fuel:Nat} {v:Value} {x:DataW H × List MemPlace}(h:DataW.trod enc Tryz.prog W 0(fun _=>true)true fuel 39 [v]=some x):∃ l,IntsAt W.heap.size W v l/\yS v/\l.length<=Rows.uptoBulk x.1:=by
 rcases open_ints Tryz.underlying39 Tryz.underlying3 GB h with⟨e,_⟩ | ⟨a,len,cap,zs,e,_,hl,_,hz,hx,hc,hw⟩
 ·simp only [List.cons.injEq,and_true]at e;subst e;exact⟨[],⟨none,0,rfl,Nat.le_refl _,fun k hk=>by simp at hk⟩,fun n c e=>by simp at e;omega,by simp⟩
 ·simp only [List.cons.injEq,and_true]at e;subst e;simp only [if_true]at hz;have aa:(zs.take len).length=len:=by simp;omega
  refine⟨zs.take len,⟨some a,cap,by rw [aa],by omega,fun k hk=> ?_⟩,fun n c e=>by simp at e, ?_⟩
  ·have h0:a.spot=none:=by
    have:=hc 0(by omega);exact World.cell?_spot(w:=W)(by simpa [Addr.add]using this)
   have ab:k<zs.length:=by omega
   have:=hc k ab;refine⟨a.block,a.off, ?_,ED(a:=⟨a.block,a.off+k,none⟩)(kJ h0 this), ?_⟩
   ·obtain⟨b,o,s⟩:=a;simp only at h0;subst h0;rfl
   ·rw [kJ h0 this];simp [List.getD,ab]
  ·rw [hx];have:=ql(lits(H:=H) .i64(zs.take len));have hll:(lits(H:=H) .i64(zs.take len)).length=(zs.take len).length:=by simp [lits]
   simp only [Rows.uptoBulk];omega
theorem DG {fuel:Nat} {v:Value} {x:DataW H × List MemPlace}(h:DataW.trod enc Tryz.prog W 0(fun _=>true)true fuel 37 [v]=some x):
  ∃ p,ProgAt W(.agg #[v])p/\p.length<=Rows.uptoBulk x.1/\(∀ c∈p,c.length<=Rows.uptoBulk x.1/\∀ i∈c,oZ i.n)/\2<=Rows.uptoBulk x.1:=by
 obtain⟨y0,n,hx,hl,h0⟩:=trod_struct1 Tryz.underlying37 h;have aa:DataW.trod enc Tryz.prog W 0(fun _=>true)true n 35 [v]=some y0:=by simpa [GM]using h0
 obtain⟨p,h1,_,h3,h4⟩:=AS aa;have hd:x.1= .agg [y0.1]:=congrArg Prod.fst hx;have hb:Rows.uptoBulk y0.1+1<=Rows.uptoBulk x.1:=by
  rw [hd];simp only [Rows.uptoBulk,Rows.uptoBulkAll];omega
 have:=Ao y0.1;exact⟨p,h1,by omega,fun c hc=>⟨by have:=(h4 c hc).1;omega,(h4 c hc).2⟩,by omega⟩
end
end
section
open Go.ChangeShapes Go.WideShapes Go.ChangeAt Go.RowKit Go.Joins
theorem GW:Tryz.prog.cellsOf 9=1:=by kernel_rfl
theorem B1 {H:Type}(l:List(DataW H))(h:∀ d∈l,2<=Rows.uptoBulk d):2*l.length<=Rows.uptoBulkAll l:=by
 induction l with
 | nil=>simp [Rows.uptoBulkAll]
 | cons x r ih=>
  have h1:=h x List.mem_cons_self;have h2:=ih fun d hd=>h d(List.mem_cons_of_mem _ hd)
  simp only [Rows.uptoBulkAll,List.length_cons];omega
def ProgsAt(W:World)(v:Value)(P:List(List(List Ins))):Prop:=
 ∃ ao cap,v= .slice ao P.length cap/\∀ i(hi:i<P.length),∃ g o,ao=some⟨g,o,none⟩/\∃ rv,W.cell?⟨g,o+i,none⟩=some rv/\ProgAt W(.agg #[rv])P[i]
def SchsAt(W:World)(v:Value)(S:List(List Int)):Prop:=
 ∃ ao cap,v= .slice ao S.length cap/\∀ i(hi:i<S.length),∃ g o,ao=some⟨g,o,none⟩/\∃ rv,W.cell?⟨g,o+i,none⟩=some rv/\IntsAt W.heap.size W rv S[i]/\yS rv
section
variable {H : Type} {enc : TypeId × Value -> H} {W : World}
theorem rp {a:Addr} {v:Value}(h:W.cell?(a.add 0)=some v):a=⟨a.block,a.off,none⟩:=by
 have h0:a.spot=none:=World.cell?_spot(w:=W)(by simpa [Addr.add]using h);obtain⟨b,o,s⟩:=a;simp only at h0;subst h0;rfl
theorem AJ {v:Value} {d:DataW H} {ps:List MemPlace} {base:Nat}(ab:Value.okWide Tryz.prog W .any base 22 v)(h:DataW.Trod enc Tryz.prog W 0(fun _=>true)true 22 v d ps):
  ∃ P,ProgsAt W v P/\2*P.length<=Rows.uptoBulk d/\∀ p∈P,p.length<=Rows.uptoBulk d/\∀ c∈p,c.length<=Rows.uptoBulk d/\∀ i∈c,oZ i.n:=by
 obtain⟨a0,len0,cap0,rfl⟩:=okWide_slice Tryz.underlying22 ab;obtain⟨fuel,hf⟩:=h;rcases Deep.open_slice1 Tryz.underlying22 GC hf with⟨e,_⟩ | ⟨a,len,cap,m,n,V,D,Pl,e,_,hl,_,hm,hx,hel⟩
 ·simp [Value.cells]at e;rw [e.1,e.2.1,e.2.2];exact⟨[],⟨none,0,rfl,fun k hk=>by simp at hk⟩,by simp,fun p hp=>by cases hp⟩
 ·simp [Value.cells]at e;rw [e.1,e.2.1,e.2.2];simp only [if_true]at hm;obtain⟨f,ac⟩:=Deep.choose_lt(α:=List(List Ins))(n:=len)(p:=fun k p=>ProgAt W(.agg #[V k])p/\p.length<=Rows.uptoBulk(D k)/\(∀ c∈p,c.length<=Rows.uptoBulk(D k)/\∀ i∈c,oZ i.n)/\2<=Rows.uptoBulk(D k))(fun k hk=>DG(hel k(by omega)).2);have aa:((List.range len).map f).length=len:=by simp
  have hd:d= .slice((List.range len).map D)((List.range(m - len)).map fun j=>D(len+j)):=congrArg Prod.fst hx;refine⟨(List.range len).map f,⟨some a,cap,by rw [aa],fun k hk=> ?_⟩, ?_,fun p hp=> ?_⟩
  ·have ad:k<len:=by omega
   have hs:=rp(hel 0(by omega)).1;refine⟨a.block,a.off,by rw [<-hs],V k,kJ(by rw [hs])(hel k(by omega)).1, ?_⟩;simpa using(ac k ad).1
  ·rw [aa,hd];have:=B1((List.range len).map D)(fun d hd=>by
    obtain⟨k,hk,rfl⟩:=List.mem_map.1 hd;exact(ac k(by simpa using hk)).2.2.2)
   simp only [Rows.uptoBulk];simp at this;omega
  ·obtain⟨k,hk,rfl⟩:=List.mem_map.1 hp;obtain⟨_,h1,h2,_⟩:=ac k(by simpa using hk);have h3:=wn((List.range len).map D)(D k)(List.mem_map.2⟨k,hk,rfl⟩);have h4:Rows.uptoBulk(D k)<=Rows.uptoBulk d:=by
    rw [hd];simp only [Rows.uptoBulk];omega
   exact⟨by omega,fun c hc=>⟨by have:=(h2 c hc).1;omega,(h2 c hc).2⟩⟩
theorem DH {v:Value} {d:DataW H} {ps:List MemPlace} {base:Nat}(ab:Value.okWide Tryz.prog W .any base 23 v)(h:DataW.Trod enc Tryz.prog W 0(fun _=>true)true 23 v d ps):
  ∃ S,SchsAt W v S/\S.length<=Rows.uptoBulk d/\∀ s∈S,s.length<=Rows.uptoBulk d:=by
 obtain⟨a0,len0,cap0,rfl⟩:=okWide_slice Tryz.underlying23 ab;obtain⟨fuel,hf⟩:=h;rcases Deep.open_slice1 Tryz.underlying23 GA hf with⟨e,_⟩ | ⟨a,len,cap,m,n,V,D,Pl,e,_,hl,_,hm,hx,hel⟩
 ·simp [Value.cells]at e;rw [e.1,e.2.1,e.2.2];exact⟨[],⟨none,0,rfl,fun k hk=>by simp at hk⟩,by simp,fun p hp=>by cases hp⟩
 ·simp [Value.cells]at e;rw [e.1,e.2.1,e.2.2];simp only [if_true]at hm;obtain⟨f,ac⟩:=Deep.choose_lt(α:=List Int)(n:=len)(p:=fun k l=>IntsAt W.heap.size W(V k)l/\yS(V k)/\l.length<=Rows.uptoBulk(D k))(fun k hk=>DD(hel k(by omega)).2);have aa:((List.range len).map f).length=len:=by simp
  have hd:d= .slice((List.range len).map D)((List.range(m - len)).map fun j=>D(len+j)):=congrArg Prod.fst hx;refine⟨(List.range len).map f,⟨some a,cap,by rw [aa],fun k hk=> ?_⟩, ?_,fun p hp=> ?_⟩
  ·have ad:k<len:=by omega
   have hs:=rp(hel 0(by omega)).1;refine⟨a.block,a.off,by rw [<-hs],V k,kJ(by rw [hs])(hel k(by omega)).1, ?_,(ac k ad).2.1⟩;simpa using(ac k ad).1
  ·rw [aa,hd];have:=ql((List.range len).map D);simp only [Rows.uptoBulk];simp at this;omega
  ·obtain⟨k,hk,rfl⟩:=List.mem_map.1 hp;obtain⟨_,_,h1⟩:=ac k(by simpa using hk);have h3:=wn((List.range len).map D)(D k)(List.mem_map.2⟨k,hk,rfl⟩);have h4:Rows.uptoBulk(D k)<=Rows.uptoBulk d:=by
    rw [hd];simp only [Rows.uptoBulk];omega
   omega
theorem xL {v:Value} {d:DataW H} {ps:List MemPlace} {base:Nat}(ab:Value.okWide Tryz.prog W .any base 24 v)(h:DataW.Trod enc Tryz.prog W 0(fun _=>true)true 24 v d ps):
  ∃ L,StrsAt W v L/\L.length<=Rows.uptoBulk d/\∀ x∈L,x.size<=Rows.uptoBulk d:=by
 obtain⟨a0,len0,cap0,rfl⟩:=okWide_slice Tryz.underlying24 ab;obtain⟨fuel,hf⟩:=h;rcases Deep.open_slice1 Tryz.underlying24 GW hf with⟨e,_⟩ | ⟨a,len,cap,m,n,V,D,Pl,e,_,hl,_,hm,hx,hel⟩
 ·simp [Value.cells]at e;rw [e.1,e.2.1,e.2.2];exact⟨[],⟨none,0,rfl,fun k hk=>by simp at hk⟩,by simp,fun p hp=>by cases hp⟩
 ·simp [Value.cells]at e;rw [e.1,e.2.1,e.2.2];simp only [if_true]at hm;have hinh:Inhabited ByteArray:=⟨⟨#[]⟩⟩;obtain⟨f,ac⟩:=Deep.choose_lt(α:=ByteArray)(n:=len)(p:=fun k x=>V k= .string x/\x.size<=Rows.uptoBulk(D k))(fun k hk=>by
   obtain⟨x,e1,e2,_⟩:=DataW.trod_string Tryz.underlying9(hel k(by omega)).2;simp only [List.cons.injEq,and_true]at e1;refine⟨x,e1, ?_⟩;have e3:D k= .lit(.string x.data.toList):=congrArg Prod.fst e2;rw [e3];simp only [Rows.uptoBulk];have:x.data.toList.length=x.size:=by simp
   omega)
  have aa:((List.range len).map f).length=len:=by simp
  have hd:d= .slice((List.range len).map D)((List.range(m - len)).map fun j=>D(len+j)):=congrArg Prod.fst hx;refine⟨(List.range len).map f,⟨some a,cap,by rw [aa],fun k hk=> ?_⟩, ?_,fun p hp=> ?_⟩
  ·have ad:k<len:=by omega
   have hs:=rp(hel 0(by omega)).1;refine⟨a.block,a.off,by rw [<-hs], ?_⟩;have:=kJ(by rw [hs])(hel k(by omega)).1;rw [(ac k ad).1]at this;simpa using this
  ·rw [aa,hd];have:=ql((List.range len).map D);simp only [Rows.uptoBulk];simp at this;omega
  ·obtain⟨k,hk,rfl⟩:=List.mem_map.1 hp;obtain⟨_,h1⟩:=ac k(by simpa using hk);have h3:=wn((List.range len).map D)(D k)(List.mem_map.2⟨k,hk,rfl⟩);have h4:Rows.uptoBulk(D k)<=Rows.uptoBulk d:=by
    rw [hd];simp only [Rows.uptoBulk];omega
   omega
end
end
section
open Go.RowKit
theorem yH:iz qO [0]=0:=by decide+kernel
theorem Av:(iF qO [0]).kind=5/\(iF qO [0]).steps.length=1:=by decide+kernel
theorem zE:iR qO=true:=by decide+kernel
theorem AP {w:World} {g:Nat} {ty:TypeId}(h:w.heap[g]?=some(.cells #[.int .i64 0]ty(0,0))):IntsAt w.heap.size w(.slice(some⟨g,0,none⟩)1 1) [0]:=by
 refine⟨some⟨g,0,none⟩,1,rfl,Nat.le_refl _,fun k hk=>⟨g,0,rfl,(Array.getElem?_eq_some_iff.1 h).1, ?_⟩⟩;simp only [World.cell?,h];have hk':k<1:=hk;obtain rfl:k=0:=by omega
 rfl
theorem A1 {B:Nat} {w:World} {rv:Value} {c:Int}(h:ResV qO [0]B w rv c):c=0/\∃ t a x1 x3 v0 v1 v2 v3 y1 q y3,rv= .agg #[.int .i64 5, .int .i64 t, .int .i64 a, .slice x1 1 x3, .int .i64 v0, .int .i64 v1, .int .i64 v2, .int .i64 v3, .slice y1 q y3]:=by
 obtain⟨k,t,a,v0,v1,v2,v3,x1,x3,y1,y3,m,q,rfl,hc,hh⟩:=h;rw [yH]at hc;rcases hh with⟨_,h1,_,_,_,_,_,_,h5,_⟩ | ⟨h0,_⟩
 ·obtain⟨e1,e5⟩:=Av;rw [e1]at h1;rw [e5]at h5;subst h1 h5;exact⟨hc,_,_,_,_,_,_,_,_,_,_,_,rfl⟩
 ·exact absurd hc h0
theorem EC {x y:Nat}(h:x+y<=1048576):x*y<=274877906944:=by
 have key:∀ u d:Nat,u+d=524288->u*(524288+d)<=274877906944:=fun u d e=>by
  have h1:(u+d)*(u+d)=274877906944:=by rw [e]
  have h2:u*(524288+d)=u*(u+d)+u*d:=by rw [<-e,Nat.mul_add u(u+d)d]
  have h3:(u+d)*(u+d)=u*(u+d)+d*(u+d):=Nat.add_mul _ _ _;have h4:d*(u+d)=u*d+d*d:=by rw [Nat.mul_add,Nat.mul_comm d u]
  omega
 by_cases hx:x<=524288
 ·exact Nat.le_trans(Nat.mul_le_mul_left x(by omega:y<=524288+(524288 - x)))(key x(524288 - x)(by omega))
 ·rw [Nat.mul_comm];exact Nat.le_trans(Nat.mul_le_mul_left y(by omega:x<=524288+(524288 - y)))(key y(524288 - y)(by omega))
theorem Ej {p s b t:Nat}(h:2*p+s+b+t<=1048576):32*(p*s+b+t)<=4500000000000:=by
 have h1:=EC(x:=2*p)(y:=s)(by omega);rw [Nat.mul_assoc]at h1;omega
theorem ProgsAt.pres {w w':World} {v:Value} {P:List(List(List Ins))}(h:ProgsAt w v P)(hp:Pres w w'):ProgsAt w' v P:=by
 obtain⟨ao,aa,e,hc⟩:=h;exact⟨ao,aa,e,fun i hi=>by obtain⟨g,o,e2,rv,c,d⟩:=hc i hi;exact⟨g,o,e2,rv,hp _ _ c,d.pres hp⟩⟩
theorem SchsAt.grown {w w':World} {v:Value} {S:List(List Int)}(h:SchsAt w v S)(hg:w.grownBy w' none):SchsAt w' v S:=by
 obtain⟨ao,aa,e,hc⟩:=h;exact⟨ao,aa,e,fun i hi=>by obtain⟨g,o,e2,rv,c,d,n⟩:=hc i hi;exact⟨g,o,e2,rv,ie hg _ _ c,(d.pres(ie hg)).mono hg.size,n⟩⟩
theorem ProgsAt.get {w:World} {ao:Option Addr} {aa:Nat} {P:List(List(List Ins))}(h:ProgsAt w(.slice ao P.length aa)P) {i:Nat}(hi:i<P.length):∃ g o,ao=some⟨g,o,none⟩/\∃ a c,w.cell?⟨g,o+i,none⟩=some(.slice a P[i].length c)/\ProgAt w(.agg #[.slice a P[i].length c])P[i]:=by
 obtain⟨ao',cap',e,hc⟩:=h;simp only [Value.slice.injEq,true_and]at e;obtain⟨g,o,e2,rv,c,d⟩:=hc i hi;obtain⟨a,c',e3⟩:=d.form;simp only [Value.agg.injEq,Array.mk.injEq,List.cons.injEq,and_true]at e3;subst e3;exact⟨g,o,by rw [e.1];exact e2,a,c',c,d⟩
theorem SchsAt.get {w:World} {ao:Option Addr} {aa:Nat} {S:List(List Int)}(h:SchsAt w(.slice ao S.length aa)S) {i:Nat}(hi:i<S.length):∃ g o,ao=some⟨g,o,none⟩/\∃ a c,w.cell?⟨g,o+i,none⟩=some(.slice a S[i].length c)/\IntsAt w.heap.size w(.slice a S[i].length c)S[i]/\yS(.slice a S[i].length c):=by
 obtain⟨ao',cap',e,hc⟩:=h;simp only [Value.slice.injEq,true_and]at e;obtain⟨g,o,e2,rv,c,d,n⟩:=hc i hi;obtain⟨a,c',e3⟩:=d.form;subst e3;exact⟨g,o,by rw [e.1];exact e2,a,c',c,d,n⟩
theorem xT {w:World} {ao:Option Addr} {aa:Nat} {L:List ByteArray}(h:StrsAt w(.slice ao L.length aa)L) {i:Nat}(hi:i<L.length):∃ g o,ao=some⟨g,o,none⟩/\w.cell?⟨g,o+i,none⟩=some(.string L[i]):=by
 obtain⟨ao',cap',e,hc⟩:=h;simp only [Value.slice.injEq,true_and]at e;obtain⟨g,o,e2,c⟩:=hc i hi;exact⟨g,o,by rw [e.1];exact e2,c⟩
end
end Go.Proofs.YtklenjmfalljgabGreatDoor
