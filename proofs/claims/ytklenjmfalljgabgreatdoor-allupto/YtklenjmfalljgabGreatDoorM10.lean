/- The texts Hgm Hgn Hgd0. -/
import Derived.Test.YtklenjmfalljgabGreatDoorM07
import Derived.Test.YtklenjmfalljgabGreatDoorM08
import Derived.Test.YtklenjmfalljgabGreatDoorM09
import Derived.ChangeKeysEq
namespace Go.Proofs.YtklenjmfalljgabGreatDoor
set_option maxRecDepth 100000
set_option maxHeartbeats 8000000
section
open Go.RowKit
attribute [local go_sem] Go.World.cell?_alloc_some
theorem nM{w:World}{B:Nat}{T:TypeId}{v:Value}{E:List Value}(h:w.ownsRow B T 1 v E.length E){i:Nat}(a:i<E.length):∃ g cap,v= .slice (some ⟨g,0,none⟩) E.length cap/\w.cell? ⟨g,i,none⟩=some E[i]:=by
 obtain⟨g,cap,e,_,_⟩:=h.form (by omega);refine⟨g,cap,e,?_⟩;rw [e]at h;rw [h.cellAt i (by omega),List.getElem?_eq_getElem a]
theorem pK{l:List Nat}(h:l.Nodup){i:Nat}(c:i<l.length):l[i]∉l.take i:=by
 intro b;have a:=h;rw [<-List.take_append_drop i l,List.nodup_append]at a;exact a.2.2 _ b _ (by rw [List.drop_eq_getElem_cons c];exact List.mem_cons_self) rfl
theorem qL(B:Nat)(w:World)(b:Nat)(who:Nat->Role)(n:Int)(f:Nat->Value)(K:Nat->List (Value × Int))(t:List (Nat × List Int × Value))(c:List (Nat × List Ins × Value))(s:List (Nat × Nat))
  (h:Lx B w b who n f K (EL t c s) t c s 0) (hLI:t.length<=1000) (hLC:c.length<=5864062014634) (hLR:s.length<=1000):
  Calls Tryz.prog 21 #[pt b] w fun e w'=>e= .returned (.bool true)/\∃ f',Hz B w' b who n f' K/\Fr w w' who who (fun _=>False):=by
 have HX:=il h;have bE:pt b= .pointer (some ⟨b,0,none⟩):=rfl;rw [bE];have c0:=h.cell (o:=0) (by omega);have c1:=h.cell (o:=1) (by omega);have c2:=h.cell (o:=2) (by omega);have c3:=h.cell (o:=3) (by omega);have c4:=h.cell (o:=4) (by omega);have r0:w.ownsRow B 39 1 (f 0) (EL t c s 0).length (EL t c s 0):=h.lr.r 0 (by omega);have r1:w.ownsRow B 39 1 (f 1) (EL t c s 1).length (EL t c s 1):=h.lr.r 1 (by omega);have Z:w.ownsRow B 66 1 (f 2) (EL t c s 2).length (EL t c s 2):=h.lr.r 2 (by omega);have O:w.ownsRow B 66 1 (f 3) (EL t c s 3).length (EL t c s 3):=h.lr.r 3 (by omega);have r4:w.ownsRow B 35 1 (f 4) (EL t c s 4).length (EL t c s 4):=h.lr.r 4 (by omega);have l0:(EL t c s 0).length=t.length:=by simp [EL]
 have l1:(EL t c s 1).length=t.length:=by simp [EL]
 have l2:(EL t c s 2).length=c.length:=by simp [EL]
 have l3:(EL t c s 3).length=c.length:=by simp [EL]
 have l4:(EL t c s 4).length=s.length:=by simp [EL]
 have wr:=h.lr.wr;have cg:=il r0;have cE:=il r1;have cJ:=il Z;have bN:=il O;have bY:=il r4;obtain⟨a0,b0,d0,e0⟩:=iy r0;obtain⟨a1,b1,d1,e1⟩:=iy r1;obtain⟨a2,b2,d2,P⟩:=iy Z;obtain⟨a3,b3,d3,J⟩:=iy O;obtain⟨a4,b4,d4,e4⟩:=iy r4;have cO:b0=t.length:=by rw [e0]at r0;have:=iC r0;omega
 have cr:b1=t.length:=by rw [e1]at r1;have:=iC r1;omega
 have cu:b2=c.length:=by rw [P]at Z;have:=iC Z;omega
 have cx:b3=c.length:=by rw [J]at O;have:=iC O;omega
 have cM:b4=s.length:=by rw [e4]at r4;have:=iC r4;omega
 subst cO cr cu cx cM;rw [e0]at c0;rw [e1]at c1;rw [P]at c2;rw [J]at c3;rw [e4]at c4;have bd:=il e0;have bJ:=il e1;have bt:=il P;have aZ:=il J;have bO:=il e4;have cj:=il c0;have bV:=il c1;have cs:=il c2;have bK:=il c3;have ck:=il c4;have aF:=il wr;have HL:=il h.le.lt;have aO:=il h.le.nd;have bf:Hid (∀ g,(g∈s.map (·.1)\/g∈c.map (·.1)\/g∈t.map (·.1))->who g= .lent):=fun g e=>(h.le.lt g (by
  rcases e with e | e | e
  ·exact List.mem_append.2 (Or.inr (List.mem_append.2 (Or.inr e)))
  ·exact List.mem_append.2 (Or.inr (List.mem_append.2 (Or.inl e)))
  ·exact List.mem_append.2 (Or.inl e))).2
 have bm:Hid (who b= .hands):=h.hs.1.wb;clear h bE r0 r1 Z O r4 l0 l1 l2 l3 l4 e0 e1 P J e4 wr c0 c1 c2 c3 c4;have q0:(t.length:Int)<=1000:=by omega
 have q1:(c.length:Int)<=5864062014634:=by omega
 have q2:(s.length:Int)<=1000:=by omega
 go_enter Tryz.func21,Tryz.ntmps21
 go_wp2_with fail
 go_loopw [3,4,5] (fun ok cv iv w'=>∃ i off:Nat,i<=s.length/\ok= .bool true/\cv= .int .i64 off/\Hid (((s.take i).map (·.2)).sum=off)/\iv= .int .i64 i/\Hid (Chg w w' (fun g=>g∈(s.take i).map (·.1)))) (fun _ _ iv _=>s.length - (intOf iv).toNat)
 case atStart=>exact⟨0,0,Nat.zero_le _,rfl,rfl,il rfl,rfl,il (Chg.refl _ _)⟩
 case round=>
  obtain⟨i,off,hi,rfl,rfl,bA,rfl,A⟩:=hrel;obtain⟨w5,bF⟩:∃ w5,w5=wr:=⟨_,rfl⟩;rw [<-bF]at A ⊢;clear bF;have I:∀ g,g∈(s.take i).map (·.1)->who g= .lent:=fun g e=>bf.out g (Or.inl (by
   obtain⟨x,hx,rfl⟩:=List.mem_map.1 e;exact List.mem_map.2 ⟨x,List.mem_of_mem_take hx,rfl⟩))
  have V:¬b∈(s.take i).map (·.1):=fun e=>by have:=I b e;rw [bm.out]at this;cases this
  have k4:=A.out.cell ck.out V;by_cases E:i<s.length
  ·obtain⟨g4,cp4,e4,r4⟩:=nM bY.out (i:=i) (by simp [EL];exact E);have bj:w.cell? ⟨g4,i,none⟩=some (sl2 s[i].1 s[i].2):=by simpa [EL]using r4
   rw [bO.out]at e4;simp only [Value.slice.injEq]at e4;obtain⟨co,cc,ch⟩:=e4;clear cc;subst co ch;have cP:who g4= .lrow 4:=aF.out 4 (by omega) g4 (by rw [bO.out];rfl);have k5:=A.out.cell bj (fun e=>by have:=I g4 e;rw [cP]at this;cases this);obtain⟨aB,cS,cR⟩:=HX.out.le.lr i E;have be:=HX.out.le.row_in i E;have aP:¬s[i].1∈(s.take i).map (·.1):=by
    have aj:(s.map (·.1)).Nodup:=by
     have:=aO.out;rw [List.nodup_append]at this;have F:=this.2.1;rw [List.nodup_append]at F;exact F.2.1
    have:=pK aj (i:=i) (by simpa using E);rw [<-List.map_take]at this;simpa using this
   have ba:Hid (((s.take (i+1)).map (·.2)).sum=((s.take i).map (·.2)).sum+s[i].2):=by
    unfold Hid;rw [List.take_succ_eq_append_getElem E,List.map_append,List.sum_append];simp
   have W:Hid ((s.take (i+1)).map (·.1)=(s.take i).map (·.1)++[s[i].1]):=by
    unfold Hid;rw [List.take_succ_eq_append_getElem E,List.map_append];rfl
   have bR:s[i].1∈s.map (·.1):=List.mem_map.2 ⟨_,List.getElem_mem E,rfl⟩;have bW:Hid (s[i].1∉c.map (·.1)):=fun e=>by
    have:=aO.out;rw [List.nodup_append]at this;have F:=this.2.1;rw [List.nodup_append]at F;exact F.2.2 _ e _ bR rfl
   have cT:Hid (∀ g,g∈(s.take i).map (·.1)->g∉c.map (·.1)):=fun g e P=>by
    have:=aO.out;rw [List.nodup_append]at this;have F:=this.2.1;rw [List.nodup_append]at F;obtain⟨x,hx,rfl⟩:=List.mem_map.1 e;exact F.2.2 _ P _ (List.mem_map.2 ⟨x,List.mem_of_mem_take hx,rfl⟩) rfl
   have bC:=bA.out;rw [bC]at aB be ba;generalize s[i]=x at*;obtain⟨g,m⟩:=x;simp only at bj k5 aB cS cR be aP ba W bW;clear bj bR bC;have bc:((c.drop off).take m).length=m:=by rw [List.length_take,List.length_drop];omega
   have k6:w5.cell? ⟨g,m,none⟩=some (.slice none 0 0):=A.out.cell (by simp only [World.cell?,aB];have:=tQ ((c.drop off).take m);rw [bc]at this;exact this) aP;have k7:w5.cell? ⟨g,m+1,none⟩=some (.slice none 0 0):=A.out.cell (by simp only [World.cell?,aB];have:=tE ((c.drop off).take m);rw [bc]at this;exact this) aP;have b5:Hid (∀ k (U:k<m),w.cell? ⟨g,k,none⟩=some (slC (c[off+k]'(Nat.lt_of_lt_of_le (Nat.add_lt_add_left U off) be)))):=fun k U=>by
    simp only [World.cell?,aB];rw [vZ _ k (by omega)];simp
   have br:=il aB;have t0:(0:Int)<=(i:Int):=by omega
   have t1:(i:Int)<s.length:=by omega
   have t2:(m:Int)<=5864062014634:=by omega
   have t3:(0:Int)<=(m:Int):=by omega
   have t4:(off:Int)+m<=c.length:=by omega
   have t5:(m:Int)<(m:Int)+2:=by omega
   have t6:(m:Int)+1<(m:Int)+2:=by omega
   unfold sl2 at k5;clear aB bc;go_wp2_with fail
   go_loopw [3,4,8] (fun ok cv kv w'=>∃ k q:Nat,k<=m/\ok= .bool true/\cv= .int .i64 q/\Hid (off+k=q)/\kv= .int .i64 k/\Hid (Chg w w' (fun g=>g∈(s.take i).map (·.1)))) (fun _ _ kv _=>m - (intOf kv).toNat)
   case atStart=>exact⟨0,off,Nat.zero_le _,rfl,rfl,il rfl,rfl,A⟩
   case round=>
    clear k4 k5 k6 k7;obtain⟨k,q,U,rfl,rfl,aY,rfl,ad⟩:=hrel;obtain⟨z,ar⟩:∃ z,z=wr:=⟨_,rfl⟩;rw [<-ar]at ad ⊢;clear ar;by_cases cI:k<m
    ·have bD:=aY.out;have hy:q<c.length:=by omega
     obtain⟨N,bL,J,O⟩:=nM bN.out (i:=q) (by simp [EL];omega);have av:w.cell? ⟨N,q,none⟩=some c[q].2.2:=by simpa [EL]using O
     rw [aZ.out]at J;simp only [Value.slice.injEq]at J;obtain⟨aS,aT,aG⟩:=J;clear aT;subst aS aG;have aH:who N= .lrow 3:=aF.out 3 (by omega) N (by rw [aZ.out];rfl);have m3:=ad.out.cell bK.out V;have m4:=ad.out.cell av (fun e=>by have:=I N e;rw [aH]at this;cases this);have m5:=ad.out.cell (b5.out k cI) aP;simp only [bD]at m5;obtain⟨T,y2,y3,y4,y5⟩:=HX.out.le.lc c[q] (List.getElem_mem hy);have an:¬c[q].1∈(s.take i).map (·.1):=fun e=>cT.out _ e (List.mem_map.2 ⟨_,List.getElem_mem hy,rfl⟩)
     have hC:CodeAt z (slC c[q]) c[q].2.1:=oZ (by rw [ad.out.blk _ (Array.getElem?_eq_some_iff.1 T).1 an];exact T) _;have Q:CodeAt z c[q].2.2 c[q].2.1:=pR y3 y4 (fun g' h1 F=>ad.out.blk g' h1 (fun e=>by have:=I g' e;rw [F]at this;cases this));generalize c[q]=y at*;obtain⟨v,l,yv⟩:=y;simp only [slC]at m4 m5 hC Q y5;obtain⟨ya,yb,rfl⟩:∃ ya yb,yv= .slice ya l.length yb:=⟨_,_,Q.choose_spec.choose_spec.1⟩;have ap:∀ (d:Nat) (D:Array Obj),Calls Tryz.prog 52 #[.slice (some ⟨v,0,none⟩) l.length (l.length+2),.slice ya l.length yb] (Sort.grow (redrawn z d) D) fun e w''=>e= .returned (.bool true)/\∃ p:Regrown,w''=Sort.grow (redrawn z p.d) p.os:=by
      intro d D;have ac:=kQ (below_regrown z d D);refine Calls.regrown_of ((pD l _ _ _ (CodeAt.pres hC (iq ac)) (CodeAt.pres Q (iq ac)) y5).mono ?_);rintro e w' ⟨rfl,hl⟩;refine⟨by simp,?_⟩;have:=iL (r:=none) hl;exact⟨this.os,this.tape,this.output,this.size,fun k U=>this.block k U (by simp)⟩
     have n3:=fun d D=>cell_regrown m3 d D
     have n4:=fun d D=>cell_regrown m4 d D
     have n5:=fun d D=>cell_regrown m5 d D
     have s0:(0:Int)<=(k:Int):=by omega
     have s1:(k:Int)<m:=by omega
     have s2:(k:Int)<(m:Int)+2:=by omega
     have s3:(0:Int)<=(q:Int):=by omega
     have s4:(q:Int)<c.length:=by omega
     clear hC Q T y2 y3 y4 O av;clear bD hy an;go_wp2_with fail
     refine wp_region_quiet_below (by kernel_rfl) (by kernel_rfl) ?_;repeat (quiet_step (exact ap _ _))
     refine wpQuiet_nil ?_;intro H M;obtain⟨⟨dq,aR⟩,M⟩:=M;have S:=below_regrown z dq aR;rw [<-M]at S;have cB:=il (ad.out.below S);clear M ap n3 n4 n5 S m3 m4 m5;go_wp2_with fail
     go_roundw
     case rel=>exact⟨k+1,q+1,by omega,rfl,by go_num,il (by have:=aY.out;omega),by go_num,cB⟩
     case measure=>simp [intOf];omega
    ·have cL:k=m:=by omega
     have u1:(m:Int)<=(k:Int):=by omega
     have HQ:Hid (((s.take (i+1)).map (·.2)).sum=q):=by unfold Hid;rw [ba.out];have:=aY.out;omega
     have ak:Hid (Chg w z (fun g'=>g'∈(s.take (i+1)).map (·.1))/\∃ R:Array Value,R.size=m+2/\z.heap[g]?=some (.cells R 66 (0,0))):=by
      refine⟨ad.out.mono (fun g' e=>by rw [W.out];exact List.mem_append.2 (Or.inl e)),_,?_,by rw [ad.out.blk g (Array.getElem?_eq_some_iff.1 br.out).1 aP];exact br.out⟩;rw [tU,List.length_take,List.length_drop];omega
     have al:g∈(s.take (i+1)).map (·.1):=by rw [W.out];exact List.mem_append.2 (Or.inr (by simp))
     clear ad cL aY;go_wp2_with fail
     go_loopw [10] (fun kv w'=>∃ k:Nat,k<=m+2/\kv= .int .i64 k/\Hid (Chg w w' (fun g'=>g'∈(s.take (i+1)).map (·.1))/\∃ R:Array Value,R.size=m+2/\w'.heap[g]?=some (.cells R 66 (0,0)))) (fun kv _=>m+2 - (intOf kv).toNat)
     case atStart=>exact⟨0,by omega,rfl,ak⟩
     case round=>
      clear ak;obtain⟨k,U,rfl,Y⟩:=hrel;obtain⟨C,aw⟩:∃ C,C=wr:=⟨_,rfl⟩;rw [<-aw]at Y ⊢;clear aw;by_cases bI:k<m+2
      ·obtain⟨ax,R,au,G⟩:=Y.out;obtain⟨u,y0⟩:∃ u,C.cell? ⟨g,k,none⟩=some u:=⟨R[k]'(by omega),by simp only [World.cell?,G];exact Array.getElem?_eq_getElem _⟩;have T:C.frozen? ⟨g,k,none⟩=false:=by simp [World.frozen?,G]
       have aW:Hid (Chg w (C.setCell ⟨g,k,none⟩ (.slice none 0 0)) (fun g'=>g'∈(s.take (i+1)).map (·.1))/\∃ R:Array Value,R.size=m+2/\(C.setCell ⟨g,k,none⟩ (.slice none 0 0)).heap[g]?=some (.cells R 66 (0,0))):=
        ⟨ax.set al,R.setIfInBounds k (.slice none 0 0),by simpa using au,heap_setCell_same C g k R _ _ G⟩
       have z0:(0:Int)<=(k:Int):=by omega
       have z1:(k:Int)<(m:Int)+2:=by omega
       clear G au ax;go_wp2_with fail
       go_roundw
       case rel=>exact⟨k+1,by omega,by go_num,aW⟩
       case measure=>simp [intOf];omega
      ·have z1:(m:Int)+2<=(k:Int):=by omega
       go_wp2_with fail
       go_roundw
       case rel=>exact⟨i+1,q,by omega,rfl,rfl,HQ,by go_num,il Y.out.1⟩
       case measure=>simp [intOf];omega
  ·have ei:i=s.length:=by omega
   have t1:(s.length:Int)<=(i:Int):=by omega
   have bu:Hid (Chg w w5 (fun g=>g∈s.map (·.1)\/g∈(c.take 0).map (·.1))):=by
    have:=A.out;rw [ei,List.take_length]at this;exact this.mono (fun g e=>Or.inl e)
   clear A I V bA ei;go_wp2_with fail
   go_loopw [3,11] (fun ok iv w'=>∃ j:Nat,j<=c.length/\ok= .bool true/\iv= .int .i64 j/\Hid (Chg w w' (fun g=>g∈s.map (·.1)\/g∈(c.take j).map (·.1)))) (fun _ iv _=>c.length - (intOf iv).toNat)
   case atStart=>exact⟨0,Nat.zero_le _,rfl,rfl,bu⟩
   case round=>
    clear bu k4;obtain⟨j,hj,rfl,rfl,A⟩:=hrel;obtain⟨z,ar⟩:∃ z,z=wr:=⟨_,rfl⟩;rw [<-ar]at A ⊢;clear ar;have I:∀ g,(g∈s.map (·.1)\/g∈(c.take j).map (·.1))->who g= .lent:=fun g e=>bf.out g (by
     rcases e with e | e
     ·exact Or.inl e
     ·obtain⟨x,hx,rfl⟩:=List.mem_map.1 e;exact Or.inr (Or.inl (List.mem_map.2 ⟨x,List.mem_of_mem_take hx,rfl⟩)))
    have V:¬(b∈s.map (·.1)\/b∈(c.take j).map (·.1)):=fun e=>by have:=I b e;rw [bm.out]at this;cases this
    have k2:=A.out.cell cs.out V;by_cases E:j<c.length
    ·obtain⟨g2,b8,P,Z⟩:=nM cJ.out (i:=j) (by simp [EL];exact E);have aL:w.cell? ⟨g2,j,none⟩=some (sl2 c[j].1 c[j].2.1.length):=by simpa [EL]using Z
     rw [bt.out]at P;simp only [Value.slice.injEq]at P;obtain⟨bl,bg,bi⟩:=P;clear bg;subst bl bi;obtain⟨N,bL,J,O⟩:=nM bN.out (i:=j) (by simp [EL];exact E);have av:w.cell? ⟨N,j,none⟩=some c[j].2.2:=by simpa [EL]using O
     rw [aZ.out]at J;simp only [Value.slice.injEq]at J;obtain⟨aS,aT,aG⟩:=J;clear aT;subst aS aG;have bn:who g2= .lrow 2:=aF.out 2 (by omega) g2 (by rw [bt.out];rfl);have aH:who N= .lrow 3:=aF.out 3 (by omega) N (by rw [aZ.out];rfl);have m2:=A.out.cell aL (fun e=>by have:=I g2 e;rw [bn]at this;cases this);have m3:=A.out.cell bK.out V;have m4:=A.out.cell av (fun e=>by have:=I N e;rw [aH]at this;cases this);obtain⟨T,y2,y3,y4,y5⟩:=HX.out.le.lc c[j] (List.getElem_mem E);have an:¬(c[j].1∈s.map (·.1)\/c[j].1∈(c.take j).map (·.1)):=by
      have aj:=aO.out;rw [List.nodup_append]at aj;have F:=aj.2.1;rw [List.nodup_append]at F;rintro(e | e)
      ·exact F.2.2 _ (List.mem_map.2 ⟨_,List.getElem_mem E,rfl⟩) _ e rfl
      ·have:=pK F.1 (i:=j) (by simpa using E);rw [<-List.map_take]at this;exact this (by simpa using e)
     have ah:z.heap[c[j].1]?=some (.cells (kd c[j].2.1) 65 (0,0)):=by rw [A.out.blk _ (Array.getElem?_eq_some_iff.1 T).1 an];exact T
     have hC:CodeAt z (slC c[j]) c[j].2.1:=oZ ah _;have Q:CodeAt z c[j].2.2 c[j].2.1:=pR y3 y4 (fun g' h1 F=>A.out.blk g' h1 (fun e=>by have:=I g' e;rw [F]at this;cases this));have W:Hid ((c.take (j+1)).map (·.1)=(c.take j).map (·.1)++[c[j].1]):=by
      unfold Hid;rw [List.take_succ_eq_append_getElem E,List.map_append];rfl
     generalize c[j]=y at*;obtain⟨v,l,yv⟩:=y;simp only [slC,sl2]at m2 m4 hC Q y5 ah W;obtain⟨ya,yb,rfl⟩:∃ ya yb,yv= .slice ya l.length yb:=⟨_,_,Q.choose_spec.choose_spec.1⟩;have ap:∀ (d:Nat) (D:Array Obj),Calls Tryz.prog 52 #[.slice (some ⟨v,0,none⟩) l.length (l.length+2),.slice ya l.length yb] (Sort.grow (redrawn z d) D) fun e w''=>e= .returned (.bool true)/\∃ p:Regrown,w''=Sort.grow (redrawn z p.d) p.os:=by
      intro d D;have ac:=kQ (below_regrown z d D);refine Calls.regrown_of ((pD l _ _ _ (CodeAt.pres hC (iq ac)) (CodeAt.pres Q (iq ac)) y5).mono ?_);rintro e w' ⟨rfl,hl⟩;refine⟨by simp,?_⟩;have:=iL (r:=none) hl;exact⟨this.os,this.tape,this.output,this.size,fun k U=>this.block k U (by simp)⟩
     have n3:=fun d D=>cell_regrown m3 d D
     have n4:=fun d D=>cell_regrown m4 d D
     have s0:(0:Int)<=(j:Int):=by omega
     have s1:(j:Int)<c.length:=by omega
     have s2:(l.length:Int)<=4398046510976:=by omega
     have s3:(0:Int)<=(l.length:Int):=by omega
     have s4:(l.length:Int)<=(l.length:Int)+2:=by omega
     have s5:(l.length:Int)<(l.length:Int)+2:=by omega
     have s6:(l.length:Int)+1<(l.length:Int)+2:=by omega
     have az:=il ah;clear hC Q T y2 y3 y4 Z O aL av ah an;go_wp2_with fail
     refine wp_region_quiet_below (by kernel_rfl) (by kernel_rfl) ?_;repeat (quiet_step (exact ap _ _))
     refine wpQuiet_nil ?_;intro H M;obtain⟨⟨dq,aR⟩,M⟩:=M;have S:=below_regrown z dq aR;rw [<-M]at S;have L:H.heap[v]?=some (.cells (kd l) 65 (0,0)):=by rw [S.block v (Array.getElem?_eq_some_iff.1 az.out).1];exact az.out
     have p0:H.cell? ⟨v,l.length*4,none⟩=some (.int .i64 (-77000000)):=by simp only [World.cell?,L];exact(kr l 0 (by omega)).1
     have p1:H.cell? ⟨v,l.length*4+1,none⟩=some (.int .i64 0):=by simp only [World.cell?,L];exact(kr l 1 (by omega)).1
     have p2:H.cell? ⟨v,l.length*4+2,none⟩=some (.int .i64 0):=by simp only [World.cell?,L];exact(kr l 2 (by omega)).1
     have p3:H.cell? ⟨v,l.length*4+3,none⟩=some (.int .i64 0):=by simp only [World.cell?,L];exact(kr l 3 (by omega)).1
     have p4:H.cell? ⟨v,(l.length+1)*4,none⟩=some (.int .i64 (-77000000)):=by simp only [World.cell?,L];exact(kr l 0 (by omega)).2
     have p5:H.cell? ⟨v,(l.length+1)*4+1,none⟩=some (.int .i64 0):=by simp only [World.cell?,L];exact(kr l 1 (by omega)).2
     have p6:H.cell? ⟨v,(l.length+1)*4+2,none⟩=some (.int .i64 0):=by simp only [World.cell?,L];exact(kr l 2 (by omega)).2
     have p7:H.cell? ⟨v,(l.length+1)*4+3,none⟩=some (.int .i64 0):=by simp only [World.cell?,L];exact(kr l 3 (by omega)).2
     have ak:Hid (Chg w H (fun g=>g∈s.map (·.1)\/g∈(c.take (j+1)).map (·.1))/\∃ R:Array Value,R.size=(l.length+2)*4/\H.heap[v]?=some (.cells R 65 (0,0))):=
      ⟨(A.out.below S).mono (fun g e=>e.imp id (fun e=>by rw [W.out];exact List.mem_append.2 (Or.inl e))),_,tK l,L⟩
     have al:v∈s.map (·.1)\/v∈(c.take (j+1)).map (·.1):=Or.inr (by rw [W.out];exact List.mem_append.2 (Or.inr (by simp)));clear M ap n3 n4 S m2 m3 m4 k2 L az;go_wp2_with fail
     clear p0 p1 p2 p3 p4 p5 p6 p7;go_loopw [15] (fun kv w'=>∃ k:Nat,k<=l.length+2/\kv= .int .i64 k/\Hid (Chg w w' (fun g=>g∈s.map (·.1)\/g∈(c.take (j+1)).map (·.1))/\∃ R:Array Value,R.size=(l.length+2)*4/\w'.heap[v]?=some (.cells R 65 (0,0)))) (fun kv _=>l.length+2 - (intOf kv).toNat)
     case atStart=>exact⟨0,by omega,rfl,ak⟩
     case round=>
      clear ak;obtain⟨k,U,rfl,Y⟩:=hrel;obtain⟨C,aw⟩:∃ C,C=wr:=⟨_,rfl⟩;rw [<-aw]at Y ⊢;clear aw;by_cases bI:k<l.length+2
      ·obtain⟨ax,R,au,G⟩:=Y.out;obtain⟨u0,y0⟩:∃ u,C.cell? ⟨v,k*4,none⟩=some u:=⟨R[k*4]'(by omega),by simp only [World.cell?,G];exact Array.getElem?_eq_getElem _⟩;obtain⟨u1,T⟩:∃ u,C.cell? ⟨v,k*4+1,none⟩=some u:=⟨R[k*4+1]'(by omega),by simp only [World.cell?,G];exact Array.getElem?_eq_getElem _⟩;obtain⟨u2,y2⟩:∃ u,C.cell? ⟨v,k*4+2,none⟩=some u:=⟨R[k*4+2]'(by omega),by simp only [World.cell?,G];exact Array.getElem?_eq_getElem _⟩;obtain⟨u3,y3⟩:∃ u,C.cell? ⟨v,k*4+3,none⟩=some u:=⟨R[k*4+3]'(by omega),by simp only [World.cell?,G];exact Array.getElem?_eq_getElem _⟩;have v0:C.frozen? ⟨v,k*4,none⟩=false:=by simp [World.frozen?,G]
       have v1:C.frozen? ⟨v,k*4+1,none⟩=false:=by simp [World.frozen?,G]
       have v2:C.frozen? ⟨v,k*4+2,none⟩=false:=by simp [World.frozen?,G]
       have v3:C.frozen? ⟨v,k*4+3,none⟩=false:=by simp [World.frozen?,G]
       have aW:Hid (Chg w ((((C.setCell ⟨v,k*4,none⟩ (.int .i64 1)).setCell ⟨v,k*4+1,none⟩ (.int .i64 0)).setCell ⟨v,k*4+2,none⟩ (.int .i64 0)).setCell ⟨v,k*4+3,none⟩ (.int .i64 99)) (fun g=>g∈s.map (·.1)\/g∈(c.take (j+1)).map (·.1))/\
         ∃ R:Array Value,R.size=(l.length+2)*4/\((((C.setCell ⟨v,k*4,none⟩ (.int .i64 1)).setCell ⟨v,k*4+1,none⟩ (.int .i64 0)).setCell ⟨v,k*4+2,none⟩ (.int .i64 0)).setCell ⟨v,k*4+3,none⟩ (.int .i64 99)).heap[v]?=some (.cells R 65 (0,0))):=by
        refine⟨(((ax.set al).set al).set al).set al,_,?_,heap_setCell_same _ v _ _ _ _ (heap_setCell_same _ v _ _ _ _ (heap_setCell_same _ v _ _ _ _ (heap_setCell_same C v _ R _ _ G)))⟩;simpa using au
       have z0:(0:Int)<=(k:Int):=by omega
       have z1:(k:Int)<(l.length:Int)+2:=by omega
       clear G au ax;go_wp2_with fail
       go_roundw
       case rel=>exact⟨k+1,by omega,by go_num,aW⟩
       case measure=>simp [intOf];omega
      ·have z1:(l.length:Int)+2<=(k:Int):=by omega
       go_wp2_with fail
       go_roundw
       case rel=>exact⟨j+1,by omega,rfl,by go_num,il Y.out.1⟩
       case measure=>simp [intOf];omega
    ·have ej:j=c.length:=by omega
     have t2:(c.length:Int)<=(j:Int):=by omega
     have bS:Hid (Chg w z (fun g=>(g∈s.map (·.1)\/g∈c.map (·.1))\/g∈(t.take 0).map (·.1))):=by
      have:=A.out;rw [ej,List.take_length]at this;exact this.mono (fun g e=>Or.inl e)
     clear A I V ej;go_wp2_with fail
     go_loopw [3,16] (fun ok iv w'=>∃ j:Nat,j<=t.length/\ok= .bool true/\iv= .int .i64 j/\Hid (Chg w w' (fun g=>(g∈s.map (·.1)\/g∈c.map (·.1))\/g∈(t.take j).map (·.1)))) (fun _ iv _=>t.length - (intOf iv).toNat)
     case atStart=>exact⟨0,Nat.zero_le _,rfl,rfl,bS⟩
     case round=>
      clear bS k2;obtain⟨j,hj,rfl,rfl,A⟩:=hrel;obtain⟨z,ar⟩:∃ z,z=wr:=⟨_,rfl⟩;rw [<-ar]at A ⊢;clear ar;have I:∀ g,((g∈s.map (·.1)\/g∈c.map (·.1))\/g∈(t.take j).map (·.1))->who g= .lent:=fun g e=>bf.out g (by
       rcases e with (e | e) | e
       ·exact Or.inl e
       ·exact Or.inr (Or.inl e)
       ·obtain⟨x,hx,rfl⟩:=List.mem_map.1 e;exact Or.inr (Or.inr (List.mem_map.2 ⟨x,List.mem_of_mem_take hx,rfl⟩)))
      have V:¬((b∈s.map (·.1)\/b∈c.map (·.1))\/b∈(t.take j).map (·.1)):=fun e=>by have:=I b e;rw [bm.out]at this;cases this
      have k0:=A.out.cell cj.out V;by_cases E:j<t.length
      ·obtain⟨g2,b8,P,Z⟩:=nM cg.out (i:=j) (by simp [EL];exact E);have aL:w.cell? ⟨g2,j,none⟩=some (sl2 t[j].1 t[j].2.1.length):=by simpa [EL]using Z
       rw [bd.out]at P;simp only [Value.slice.injEq]at P;obtain⟨bl,bg,bi⟩:=P;clear bg;subst bl bi;obtain⟨N,bL,J,O⟩:=nM cE.out (i:=j) (by simp [EL];exact E);have av:w.cell? ⟨N,j,none⟩=some t[j].2.2:=by simpa [EL]using O
       rw [bJ.out]at J;simp only [Value.slice.injEq]at J;obtain⟨aS,aT,aG⟩:=J;clear aT;subst aS aG;have bn:who g2= .lrow 0:=aF.out 0 (by omega) g2 (by rw [bd.out];rfl);have aH:who N= .lrow 1:=aF.out 1 (by omega) N (by rw [bJ.out];rfl);have m2:=A.out.cell aL (fun e=>by have:=I g2 e;rw [bn]at this;cases this);have m3:=A.out.cell bV.out V;have m4:=A.out.cell av (fun e=>by have:=I N e;rw [aH]at this;cases this);obtain⟨T,y2,y3,y4,y5⟩:=HX.out.le.li t[j] (List.getElem_mem E);have an:¬((t[j].1∈s.map (·.1)\/t[j].1∈c.map (·.1))\/t[j].1∈(t.take j).map (·.1)):=by
        have aj:=aO.out;rw [List.nodup_append]at aj;have hm:t[j].1∈t.map (·.1):=List.mem_map.2 ⟨_,List.getElem_mem E,rfl⟩;rintro((e | e) | e)
        ·exact aj.2.2 _ hm _ (List.mem_append.2 (Or.inr e)) rfl
        ·exact aj.2.2 _ hm _ (List.mem_append.2 (Or.inl e)) rfl
        ·have:=pK aj.1 (i:=j) (by simpa using E);rw [<-List.map_take]at this;exact this (by simpa using e)
       have ah:z.heap[t[j].1]?=some (.cells (kt t[j].2.1) 3 (0,0)):=by rw [A.out.blk _ (Array.getElem?_eq_some_iff.1 T).1 an];exact T
       have hC:=ma ah;have Q:IntsAt z.heap.size z t[j].2.2 t[j].2.1:=sV y3 y4 A.out.size (fun g' h1 F=>A.out.blk g' h1 (fun e=>by have:=I g' e;rw [F]at this;cases this));have W:Hid ((t.take (j+1)).map (·.1)=(t.take j).map (·.1)++[t[j].1]):=by
        unfold Hid;rw [List.take_succ_eq_append_getElem E,List.map_append];rfl
       generalize t[j]=y at*;obtain⟨v,l,yv⟩:=y;simp only [sl2]at m2 m4 hC Q y5 ah W;obtain⟨ya,yb,rfl⟩:=Q.form;have ap:∀ (d:Nat) (D:Array Obj),Calls Tryz.prog 30 #[.slice (some ⟨v,0,none⟩) l.length (l.length+2),.slice ya l.length yb] (Sort.grow (redrawn z d) D) fun e w''=>e= .returned (.bool true)/\∃ p:Regrown,w''=Sort.grow (redrawn z p.d) p.os:=by
        intro d D;have ac:=kQ (below_regrown z d D);refine Calls.regrown_of ((sU l l _ _ _ ((hC.pres (iq ac)).mono ac.size) ((Q.pres (iq ac)).mono ac.size) (by omega)).mono ?_);rintro e w' ⟨rfl,hl⟩;refine⟨by simp,?_⟩;have:=iL (r:=none) hl;exact⟨this.os,this.tape,this.output,this.size,fun k U=>this.block k U (by simp)⟩
       have n3:=fun d D=>cell_regrown m3 d D
       have n4:=fun d D=>cell_regrown m4 d D
       have s0:(0:Int)<=(j:Int):=by omega
       have s1:(j:Int)<t.length:=by omega
       have s2:(l.length:Int)<=17592186043904:=by omega
       have s3:(0:Int)<=(l.length:Int):=by omega
       have s4:(l.length:Int)<=(l.length:Int)+2:=by omega
       have s5:(l.length:Int)<(l.length:Int)+2:=by omega
       have s6:(l.length:Int)+1<(l.length:Int)+2:=by omega
       have az:=il ah;clear hC Q T y2 y3 y4 Z O aL av ah an;go_wp2_with fail
       refine wp_region_quiet_below (by kernel_rfl) (by kernel_rfl) ?_;repeat (quiet_step (exact ap _ _))
       refine wpQuiet_nil ?_;intro H M;obtain⟨⟨dq,aR⟩,M⟩:=M;have S:=below_regrown z dq aR;rw [<-M]at S;have L:H.heap[v]?=some (.cells (kt l) 3 (0,0)):=by rw [S.block v (Array.getElem?_eq_some_iff.1 az.out).1];exact az.out
       have p0:H.cell? ⟨v,l.length,none⟩=some (.int .i64 (-77000000)):=by simp only [World.cell?,L];exact uK l
       have p1:H.cell? ⟨v,l.length+1,none⟩=some (.int .i64 (-77000000)):=by simp only [World.cell?,L];exact vE l
       have ak:Hid (Chg w H (fun g=>(g∈s.map (·.1)\/g∈c.map (·.1))\/g∈(t.take (j+1)).map (·.1))/\∃ R:Array Value,R.size=l.length+2/\H.heap[v]?=some (.cells R 3 (0,0))):=
        ⟨(A.out.below S).mono (fun g e=>e.imp id (fun e=>by rw [W.out];exact List.mem_append.2 (Or.inl e))),_,wj l,L⟩
       have al:(v∈s.map (·.1)\/v∈c.map (·.1))\/v∈(t.take (j+1)).map (·.1):=Or.inr (by rw [W.out];exact List.mem_append.2 (Or.inr (by simp)));clear M ap n3 n4 S m2 m3 m4 k0 L az;go_wp2_with fail
       clear p0 p1;go_loopw [20] (fun kv w'=>∃ k:Nat,k<=l.length+2/\kv= .int .i64 k/\Hid (Chg w w' (fun g=>(g∈s.map (·.1)\/g∈c.map (·.1))\/g∈(t.take (j+1)).map (·.1))/\∃ R:Array Value,R.size=l.length+2/\w'.heap[v]?=some (.cells R 3 (0,0)))) (fun kv _=>l.length+2 - (intOf kv).toNat)
       case atStart=>exact⟨0,by omega,rfl,ak⟩
       case round=>
        clear ak;obtain⟨k,U,rfl,Y⟩:=hrel;obtain⟨C,aw⟩:∃ C,C=wr:=⟨_,rfl⟩;rw [<-aw]at Y ⊢;clear aw;by_cases bI:k<l.length+2
        ·obtain⟨ax,R,au,G⟩:=Y.out;obtain⟨u0,y0⟩:∃ u,C.cell? ⟨v,k,none⟩=some u:=⟨R[k]'(by omega),by simp only [World.cell?,G];exact Array.getElem?_eq_getElem _⟩;have v0:C.frozen? ⟨v,k,none⟩=false:=by simp [World.frozen?,G]
         have aW:Hid (Chg w (C.setCell ⟨v,k,none⟩ (.int .i64 3)) (fun g=>(g∈s.map (·.1)\/g∈c.map (·.1))\/g∈(t.take (j+1)).map (·.1))/\∃ R:Array Value,R.size=l.length+2/\(C.setCell ⟨v,k,none⟩ (.int .i64 3)).heap[v]?=some (.cells R 3 (0,0))):=
          ⟨ax.set al,R.setIfInBounds k (.int .i64 3),by simpa using au,heap_setCell_same C v k R _ _ G⟩
         have z0:(0:Int)<=(k:Int):=by omega
         have z1:(k:Int)<(l.length:Int)+2:=by omega
         clear G au ax;go_wp2_with fail
         go_roundw
         case rel=>exact⟨k+1,by omega,by go_num,aW⟩
         case measure=>simp [intOf];omega
        ·have z1:(l.length:Int)+2<=(k:Int):=by omega
         go_wp2_with fail
         go_roundw
         case rel=>exact⟨j+1,by omega,rfl,by go_num,il Y.out.1⟩
         case measure=>simp [intOf];omega
      ·have t3:(t.length:Int)<=(j:Int):=by omega
       have X:HB z b f:=HX.out.hs.1.blk.same (A.out.blk b HX.out.low.2 V);have cb:=il (HX.out.free A.out I);have x4:z.cell? ⟨b,4,none⟩=some (f 4):=X.cell (by omega);have x2:z.cell? ⟨b,2,none⟩=some (f 2):=X.cell (by omega);have x3:z.cell? ⟨b,3,none⟩=some (f 3):=X.cell (by omega);have x0:z.cell? ⟨b,0,none⟩=some (f 0):=X.cell (by omega);have x1:z.cell? ⟨b,1,none⟩=some (f 1):=X.cell (by omega);rw [bd.out]at x0;have f4:=X.frozen 4;have f2:=X.frozen 2;have f3:=X.frozen 3;have f0:=X.frozen 0;have f1:=X.frozen 1;clear X k0;go_wp2_with fail
       go_ret;obtain⟨f',h1,F⟩:=cb.out;exact⟨rfl,⟨f',h1⟩,F⟩
end
section
open Go.RowKit
theorem CN(a b c d:Int)(w:World):(Op.equalIn 10000 28 (.agg #[.int .i64 a,.int .i64 b,.int .i64 c,.int .i64 d]) (.agg #[.int .i64 a,.int .i64 b,.int .i64 c,.int .i64 d])).run Tryz.prog w= .ok true w:=by
 obtain⟨i0,i,hz0,k,hz2⟩:=info_parts kn;have hc:Tryz.prog.cellsOf 3=1:=by simp [Program.cellsOf,i,k]
 have f:Tryz.prog.plainKey 3=true:=by simp [Program.plainKey,Tryz.underlying3]
 rw [show (10000:Nat)=9999+1 from rfl,run_equalIn_array w 9999 _ _ (n:=4) (e:=3) (by first | exact Tryz.underlying28 | kernel_rfl) i,hc];have p:∀ (d:Nat) (v:Int),(Op.equalIn (d+1) 3 (.int .i64 v) (.int .i64 v)).run Tryz.prog w= .ok true w:=fun d v=>by
  rw [run_equalIn_int w d _ _ .i64 v v Tryz.underlying3];simp
 have h:=p 9998;simp only [Nat.reduceAdd]at h;have m:=run_part_plain w f (xs:= #[.int .i64 a,.int .i64 b,.int .i64 c,.int .i64 d]) (off:=0) rfl;have l:=run_part_plain w f (xs:= #[.int .i64 a,.int .i64 b,.int .i64 c,.int .i64 d]) (off:=1) rfl;have o:=run_part_plain w f (xs:= #[.int .i64 a,.int .i64 b,.int .i64 c,.int .i64 d]) (off:=2) rfl;have j:=run_part_plain w f (xs:= #[.int .i64 a,.int .i64 b,.int .i64 c,.int .i64 d]) (off:=3) rfl;simp [List.range,List.range.loop,Op.eqItems,Sem.run_bind,m,l,o,j,h,Result.andThen_ok]
attribute [local go_sem] Go.World.cell?_alloc_some CN
theorem pa{c:Nat}{w:World}{who:Nat->Role}{v:Value}{m:Int}(h:KeptC c w who (v,m))(hc:c≠4):∃ xa xl xc,v= .slice xa xl xc/\xl<=1000/\∀ j,j<xl->∃ g,xa=some ⟨g,0,none⟩/\∀ t u,(elC m c)[t]?=some u->w.cell? ⟨g,j*(elC m c).length+t,none⟩=some u:=by
 rcases h with e | ⟨g,len,cap,e,hl,hin⟩
 ·exact⟨none,0,0,e,by omega,fun j hj=>by omega⟩
 ·exact⟨some ⟨g,0,none⟩,len,cap,e,hl,fun j hj=>⟨g,rfl,(mo hc).1 hin j hj⟩⟩
theorem yU{w:World}{who:Nat->Role}{v:Value}{m:Int}(h:KeptC 4 w who (v,m)):∃ xa xl xc,v= .slice xa xl xc/\xl<=1000/\∀ j,j<xl->∃ g g' cap',xa=some ⟨g,0,none⟩/\w.cell? ⟨g,j,none⟩=some (.slice (some ⟨g',0,none⟩) 1 cap')/\w.heap[g']?=some (.cells (elC m 3).toArray 65 (0,0)):=by
 rcases h with e | ⟨g,len,cap,e,hl,hin⟩
 ·exact⟨none,0,0,e,by omega,fun j hj=>by omega⟩
 ·refine⟨some ⟨g,0,none⟩,len,cap,e,hl,fun j hj=>?_⟩;obtain⟨g',cap',a,b,_⟩:=mP.1 hin j hj;exact⟨g,g',cap',rfl,a,b⟩
theorem oG{w:World}{B:Nat}{T:TypeId}{v u:Value}{L:List (Value × Int)}(b:w.ownsRow B T 1 v L.length (L.map (·.1)))(a:w.ownsRow B 3 1 u L.length (iM (L.map (·.2)))){i:Nat}(f:i<L.length):
  ∃ g c g' c',v= .slice (some ⟨g,0,none⟩) L.length c/\u= .slice (some ⟨g',0,none⟩) L.length c'/\w.cell? ⟨g,i,none⟩=some L[i].1/\w.cell? ⟨g',i,none⟩=some (.int .i64 L[i].2):=by
 obtain⟨g,c,e,_,_⟩:=b.form (by omega);obtain⟨g',c',d,_,_⟩:=a.form (by omega);refine⟨g,c,g',c',e,d,?_,?_⟩
 ·rw [e]at b;rw [b.cellAt i (by omega)];simp [f]
 ·rw [d]at a;rw [a.cellAt i (by omega)];simp [iM,f]
theorem qw(B:Nat)(w:World)(b:Nat)(who:Nat->Role)(n:Int)(f:Nat->Value)(K:Nat->List (Value × Int))(s:HsK B w b who n f K)(S:∀ c,c<5->(K c).length<=6000000000000):
  Calls Tryz.prog 27 #[pt b] w fun e w'=>e= .returned (.bool true)/\ju w' w:=by
 have HH:=il s;have aU:pt b= .pointer (some ⟨b,0,none⟩):=rfl;rw [aU];have hK0:=S 0 (by omega);have aa:w.ownsRow B 39 1 (f 6) (K 0).length ((K 0).map (·.1)):=s.1.lst 0 (by omega);have Y:w.ownsRow B 3 1 (f 7) (K 0).length (iM ((K 0).map (·.2))):=by have:=s.1.mrk 0 (by omega);simpa [jp]using this
 have a3:=il aa;have bK:=il Y;have ar:=s.1.blk.cell (o:=6) (by omega);have aD:=s.1.blk.cell (o:=7) (by omega);obtain⟨a8,lb0,aO,aC⟩:=iy aa;obtain⟨ma0,mb0,bl,aM⟩:=iy Y;rw [aC]at ar aa;rw [aM]at aD Y;have ba:=iC aa;have bv:=iC Y;subst ba bv;have aY:=il ar;have bi:=il aD;have bC:=il aC;have a0:=il aM;have bd:=il (fun x hx=>(s.1.kept 0 (by omega) x hx).1);clear aa Y ar aD aC aM;have hK1:=S 1 (by omega);have ac:w.ownsRow B 27 1 (f 8) (K 1).length ((K 1).map (·.1)):=s.1.lst 1 (by omega);have V:w.ownsRow B 3 1 (f 9) (K 1).length (iM ((K 1).map (·.2))):=by have:=s.1.mrk 1 (by omega);simpa [jp]using this
 have bx:=il ac;have bH:=il V;have ay:=s.1.blk.cell (o:=8) (by omega);have aJ:=s.1.blk.cell (o:=9) (by omega);obtain⟨bf,lb1,aV,aL⟩:=iy ac;obtain⟨ma1,mb1,bp,aG⟩:=iy V;rw [aL]at ay ac;rw [aG]at aJ V;have bA:=iC ac;have a1:=iC V;subst bA a1;have aS:=il ay;have bo:=il aJ;have bF:=il aL;have bn:=il aG;have a9:=il (fun x hx=>(s.1.kept 1 (by omega) x hx).1);clear ac V ay aJ aL aG;have hK2:=S 2 (by omega);have ad:w.ownsRow B 29 1 (f 10) (K 2).length ((K 2).map (·.1)):=s.1.lst 2 (by omega);have T:w.ownsRow B 3 1 (f 11) (K 2).length (iM ((K 2).map (·.2))):=by have:=s.1.mrk 2 (by omega);simpa [jp]using this
 have bP:=il ad;have bN:=il T;have aI:=s.1.blk.cell (o:=10) (by omega);have aH:=s.1.blk.cell (o:=11) (by omega);obtain⟨bm,lb2,aT,au⟩:=iy ad;obtain⟨ma2,mb2,a2,aA⟩:=iy T;rw [au]at aI ad;rw [aA]at aH T;have bc:=iC ad;have a5:=iC T;subst bc a5;have aX:=il aI;have bG:=il aH;have bJ:=il au;have bO:=il aA;have bE:=il (fun x hx=>(s.1.kept 2 (by omega) x hx).1);clear ad T aI aH au aA;have hK3:=S 3 (by omega);have U:w.ownsRow B 66 1 (f 12) (K 3).length ((K 3).map (·.1)):=s.1.lst 3 (by omega);have ae:w.ownsRow B 3 1 (f 13) (K 3).length (iM ((K 3).map (·.2))):=by have:=s.1.mrk 3 (by omega);simpa [jp]using this
 have bh:=il U;have aZ:=il ae;have av:=s.1.blk.cell (o:=12) (by omega);have aE:=s.1.blk.cell (o:=13) (by omega);obtain⟨bU,lb3,aW,aB⟩:=iy U;obtain⟨ma3,mb3,bu,az⟩:=iy ae;rw [aB]at av U;rw [az]at aE ae;have bI:=iC U;have a6:=iC ae;subst bI a6;have aQ:=il av;have be:=il aE;have bb:=il aB;have bR:=il az;have bB:=il (fun x hx=>(s.1.kept 3 (by omega) x hx).1);clear U ae av aE aB az;have hK4:=S 4 (by omega);have ab:w.ownsRow B 35 1 (f 14) (K 4).length ((K 4).map (·.1)):=s.1.lst 4 (by omega);have Z:w.ownsRow B 3 1 (f 15) (K 4).length (iM ((K 4).map (·.2))):=by have:=s.1.mrk 4 (by omega);simpa [jp]using this
 have bS:=il ab;have bL:=il Z;have aK:=s.1.blk.cell (o:=14) (by omega);have aF:=s.1.blk.cell (o:=15) (by omega);obtain⟨a4,lb4,aN,ax⟩:=iy ab;obtain⟨ma4,mb4,bw,aw⟩:=iy Z;rw [ax]at aK ab;rw [aw]at aF Z;have bQ:=iC ab;have bq:=iC Z;subst bQ bq;have aR:=il aK;have bz:=il aF;have bg:=il ax;have bM:=il aw;have bT:=il (fun x hx=>(s.1.kept 4 (by omega) x hx).1);clear ab Z aK aF ax aw;have l:Hid (∀ w',ju w' w->∀ a,w'.cell? a=w.cell? a):=fun w' hl a=>by simp [World.cell?,hl.1]
 clear s S aU;have qK0:((K 0).length:Int)<=6000000000000:=by omega
 generalize br:K 0=L0 at*;clear br;have qK1:((K 1).length:Int)<=6000000000000:=by omega
 generalize bj:K 1=L1 at*;clear bj;have qK2:((K 2).length:Int)<=6000000000000:=by omega
 generalize bD:K 2=L2 at*;clear bD;have qK3:((K 3).length:Int)<=6000000000000:=by omega
 generalize a7:K 3=L3 at*;clear a7;have qK4:((K 4).length:Int)<=6000000000000:=by omega
 generalize bk:K 4=L4 at*;clear bk;go_enter Tryz.func27,Tryz.ntmps27
 go_wp2_with fail
 go_loopw [3] (fun i w'=>∃ k:Nat,k<=L0.length/\i= .int .i64 k/\Hid (ju w' w)) (fun i _=>L0.length - (intOf i).toNat)
 case atStart=>exact⟨0,Nat.zero_le _,rfl,il (jr _)⟩
 case round=>
  skip
  obtain⟨k,hk,rfl,p⟩:=hrel;obtain⟨q,E⟩:∃ q,q=wr:=⟨_,rfl⟩;rw [<-E]at p ⊢;clear E;have L:q.cell? ⟨b,6,none⟩=some (.slice a8 L0.length aO):=by rw [l.out q p.out];exact aY.out
  by_cases H:k<L0.length
  ·obtain⟨y,oc,F,mc,v,z,r,t⟩:=oG a3.out bK.out H;rw [bC.out]at v;rw [a0.out]at z;simp only [Value.slice.injEq,true_and]at v z;obtain⟨rfl,rfl⟩:=v;obtain⟨rfl,rfl⟩:=z;have J:=il (bd.out L0[k] (List.getElem_mem H));have q0:(0:Int)<=(k:Int):=by omega
   have N:(k:Int)<L0.length:=by omega
   generalize L0[k]=x at*;obtain⟨xv,I⟩:=x;simp only at r t;obtain⟨A,m,D,P,ak,C⟩:=pa J.out (by omega);subst P;have Q:=il C;clear C J;have M:q.cell? ⟨y,k,none⟩=some (.slice A m D):=by rw [l.out q p.out];exact r
   have qx:(m:Int)<=1000:=by omega
   go_wp2_with fail
   go_loopw [4] (fun i w'=>∃ j:Nat,j<=m/\i= .int .i64 j/\Hid (ju w' w)) (fun i _=>m - (intOf i).toNat)
   case atStart=>exact⟨0,Nat.zero_le _,rfl,p⟩
   case round=>
    clear L M p;obtain⟨j,hj,rfl,h⟩:=hrel;obtain⟨d,G⟩:∃ d,d=wr:=⟨_,rfl⟩;rw [<-G]at h ⊢;clear G;have f6:d.cell? ⟨b,6,none⟩=some (.slice (some ⟨y,0,none⟩) L0.length aO):=by rw [l.out d h.out];exact aY.out
    have f7:d.cell? ⟨b,7,none⟩=some (.slice (some ⟨F,0,none⟩) L0.length bl):=by rw [l.out d h.out];exact bi.out
    have k0:d.cell? ⟨y,k,none⟩=some (.slice A m D):=by rw [l.out d h.out];exact r
    have k1:d.cell? ⟨F,k,none⟩=some (.int .i64 I):=by rw [l.out d h.out];exact t
    by_cases O:j<m
    ·obtain⟨g,rfl,u⟩:=Q.out j O;have g0:d.cell? ⟨g,j,none⟩=some (.int .i64 I):=by rw [l.out d h.out];exact(by simpa [elC]using u 0 _ rfl)
     have q2:(0:Int)<=(j:Int):=by omega
     have R:(j:Int)<m:=by omega
     clear u r t;go_wp2_with fail
     go_quiet (fail)
     go_wp2_with fail
     go_roundw
     case rel=>exact⟨j+1,by omega,by go_num,il (jW h.out _)⟩
     case measure=>simp [intOf];omega
    ·have R:(m:Int)<=(j:Int):=by omega
     clear r t;go_wp2_with fail
     go_roundw
     case rel=>exact⟨k+1,by omega,by go_num,h⟩
     case measure=>simp [intOf];omega
  ·have N:(L0.length:Int)<=(k:Int):=by omega
   go_wp2_with fail
   go_loopw [5] (fun i w'=>∃ k:Nat,k<=L1.length/\i= .int .i64 k/\Hid (ju w' w)) (fun i _=>L1.length - (intOf i).toNat)
   case atStart=>exact⟨0,Nat.zero_le _,rfl,p⟩
   case round=>
    clear p;obtain⟨k,hk,rfl,p⟩:=hrel;obtain⟨q,E⟩:∃ q,q=wr:=⟨_,rfl⟩;rw [<-E]at p ⊢;clear E;have L:q.cell? ⟨b,8,none⟩=some (.slice bf L1.length aV):=by rw [l.out q p.out];exact aS.out
    by_cases H:k<L1.length
    ·obtain⟨y,oc,F,mc,v,z,r,t⟩:=oG bx.out bH.out H;rw [bF.out]at v;rw [bn.out]at z;simp only [Value.slice.injEq,true_and]at v z;obtain⟨rfl,rfl⟩:=v;obtain⟨rfl,rfl⟩:=z;have J:=il (a9.out L1[k] (List.getElem_mem H));have q0:(0:Int)<=(k:Int):=by omega
     have N:(k:Int)<L1.length:=by omega
     generalize L1[k]=x at*;obtain⟨xv,I⟩:=x;simp only at r t;obtain⟨A,m,D,P,ak,C⟩:=pa J.out (by omega);subst P;have Q:=il C;clear C J;have M:q.cell? ⟨y,k,none⟩=some (.slice A m D):=by rw [l.out q p.out];exact r
     have qx:(m:Int)<=1000:=by omega
     go_wp2_with fail
     go_loopw [6] (fun i w'=>∃ j:Nat,j<=m/\i= .int .i64 j/\Hid (ju w' w)) (fun i _=>m - (intOf i).toNat)
     case atStart=>exact⟨0,Nat.zero_le _,rfl,p⟩
     case round=>
      clear L M p;obtain⟨j,hj,rfl,h⟩:=hrel;obtain⟨d,G⟩:∃ d,d=wr:=⟨_,rfl⟩;rw [<-G]at h ⊢;clear G;have f6:d.cell? ⟨b,8,none⟩=some (.slice (some ⟨y,0,none⟩) L1.length aV):=by rw [l.out d h.out];exact aS.out
      have f7:d.cell? ⟨b,9,none⟩=some (.slice (some ⟨F,0,none⟩) L1.length bp):=by rw [l.out d h.out];exact bo.out
      have k0:d.cell? ⟨y,k,none⟩=some (.slice A m D):=by rw [l.out d h.out];exact r
      have k1:d.cell? ⟨F,k,none⟩=some (.int .i64 I):=by rw [l.out d h.out];exact t
      by_cases O:j<m
      ·obtain⟨g,rfl,u⟩:=Q.out j O;have g0:d.cell? ⟨g,j*2,none⟩=some (.int .i64 I):=by rw [l.out d h.out];exact u 0 _ rfl
       have g1:d.cell? ⟨g,j*2+1,none⟩=some (.int .i64 0):=by rw [l.out d h.out];exact u 1 _ rfl
       have q2:(0:Int)<=(j:Int):=by omega
       have R:(j:Int)<m:=by omega
       clear u r t;go_wp2_with fail
       go_quiet (fail)
       go_wp2_with fail
       go_roundw
       case rel=>exact⟨j+1,by omega,by go_num,il (jW h.out _)⟩
       case measure=>simp [intOf];omega
      ·have R:(m:Int)<=(j:Int):=by omega
       clear r t;go_wp2_with fail
       go_roundw
       case rel=>exact⟨k+1,by omega,by go_num,h⟩
       case measure=>simp [intOf];omega
    ·have N:(L1.length:Int)<=(k:Int):=by omega
     go_wp2_with fail
     go_loopw [7] (fun i w'=>∃ k:Nat,k<=L2.length/\i= .int .i64 k/\Hid (ju w' w)) (fun i _=>L2.length - (intOf i).toNat)
     case atStart=>exact⟨0,Nat.zero_le _,rfl,p⟩
     case round=>
      clear p;obtain⟨k,hk,rfl,p⟩:=hrel;obtain⟨q,E⟩:∃ q,q=wr:=⟨_,rfl⟩;rw [<-E]at p ⊢;clear E;have L:q.cell? ⟨b,10,none⟩=some (.slice bm L2.length aT):=by rw [l.out q p.out];exact aX.out
      by_cases H:k<L2.length
      ·obtain⟨y,oc,F,mc,v,z,r,t⟩:=oG bP.out bN.out H;rw [bJ.out]at v;rw [bO.out]at z;simp only [Value.slice.injEq,true_and]at v z;obtain⟨rfl,rfl⟩:=v;obtain⟨rfl,rfl⟩:=z;have J:=il (bE.out L2[k] (List.getElem_mem H));have q0:(0:Int)<=(k:Int):=by omega
       have N:(k:Int)<L2.length:=by omega
       generalize L2[k]=x at*;obtain⟨xv,I⟩:=x;simp only at r t;obtain⟨A,m,D,P,ak,C⟩:=pa J.out (by omega);subst P;have Q:=il C;clear C J;have M:q.cell? ⟨y,k,none⟩=some (.slice A m D):=by rw [l.out q p.out];exact r
       have qx:(m:Int)<=1000:=by omega
       go_wp2_with fail
       go_loopw [8] (fun i w'=>∃ j:Nat,j<=m/\i= .int .i64 j/\Hid (ju w' w)) (fun i _=>m - (intOf i).toNat)
       case atStart=>exact⟨0,Nat.zero_le _,rfl,p⟩
       case round=>
        clear L M p;obtain⟨j,hj,rfl,h⟩:=hrel;obtain⟨d,G⟩:∃ d,d=wr:=⟨_,rfl⟩;rw [<-G]at h ⊢;clear G;have f6:d.cell? ⟨b,10,none⟩=some (.slice (some ⟨y,0,none⟩) L2.length aT):=by rw [l.out d h.out];exact aX.out
        have f7:d.cell? ⟨b,11,none⟩=some (.slice (some ⟨F,0,none⟩) L2.length a2):=by rw [l.out d h.out];exact bG.out
        have k0:d.cell? ⟨y,k,none⟩=some (.slice A m D):=by rw [l.out d h.out];exact r
        have k1:d.cell? ⟨F,k,none⟩=some (.int .i64 I):=by rw [l.out d h.out];exact t
        by_cases O:j<m
        ·obtain⟨g,rfl,u⟩:=Q.out j O;have g0:d.cell? ⟨g,j*4,none⟩=some (.int .i64 I):=by rw [l.out d h.out];exact u 0 _ rfl
         have g1:d.cell? ⟨g,j*4+1,none⟩=some (.int .i64 1):=by rw [l.out d h.out];exact u 1 _ rfl
         have g2:d.cell? ⟨g,j*4+2,none⟩=some (.int .i64 2):=by rw [l.out d h.out];exact u 2 _ rfl
         have g3:d.cell? ⟨g,j*4+3,none⟩=some (.int .i64 3):=by rw [l.out d h.out];exact u 3 _ rfl
         have q2:(0:Int)<=(j:Int):=by omega
         have R:(j:Int)<m:=by omega
         clear u r t;go_wp2_with fail
         go_quiet (fail)
         go_wp2_with fail
         go_roundw
         case rel=>exact⟨j+1,by omega,by go_num,il (jW h.out _)⟩
         case measure=>simp [intOf];omega
        ·have R:(m:Int)<=(j:Int):=by omega
         clear r t;go_wp2_with fail
         go_roundw
         case rel=>exact⟨k+1,by omega,by go_num,h⟩
         case measure=>simp [intOf];omega
      ·have N:(L2.length:Int)<=(k:Int):=by omega
       go_wp2_with fail
       go_loopw [9] (fun i w'=>∃ k:Nat,k<=L3.length/\i= .int .i64 k/\Hid (ju w' w)) (fun i _=>L3.length - (intOf i).toNat)
       case atStart=>exact⟨0,Nat.zero_le _,rfl,p⟩
       case round=>
        clear p;obtain⟨k,hk,rfl,p⟩:=hrel;obtain⟨q,E⟩:∃ q,q=wr:=⟨_,rfl⟩;rw [<-E]at p ⊢;clear E;have L:q.cell? ⟨b,12,none⟩=some (.slice bU L3.length aW):=by rw [l.out q p.out];exact aQ.out
        by_cases H:k<L3.length
        ·obtain⟨y,oc,F,mc,v,z,r,t⟩:=oG bh.out aZ.out H;rw [bb.out]at v;rw [bR.out]at z;simp only [Value.slice.injEq,true_and]at v z;obtain⟨rfl,rfl⟩:=v;obtain⟨rfl,rfl⟩:=z;have J:=il (bB.out L3[k] (List.getElem_mem H));have q0:(0:Int)<=(k:Int):=by omega
         have N:(k:Int)<L3.length:=by omega
         generalize L3[k]=x at*;obtain⟨xv,I⟩:=x;simp only at r t;obtain⟨A,m,D,P,ak,C⟩:=pa J.out (by omega);subst P;have Q:=il C;clear C J;have M:q.cell? ⟨y,k,none⟩=some (.slice A m D):=by rw [l.out q p.out];exact r
         have qx:(m:Int)<=1000:=by omega
         go_wp2_with fail
         go_loopw [10] (fun i w'=>∃ j:Nat,j<=m/\i= .int .i64 j/\Hid (ju w' w)) (fun i _=>m - (intOf i).toNat)
         case atStart=>exact⟨0,Nat.zero_le _,rfl,p⟩
         case round=>
          clear L M p;obtain⟨j,hj,rfl,h⟩:=hrel;obtain⟨d,G⟩:∃ d,d=wr:=⟨_,rfl⟩;rw [<-G]at h ⊢;clear G;have f6:d.cell? ⟨b,12,none⟩=some (.slice (some ⟨y,0,none⟩) L3.length aW):=by rw [l.out d h.out];exact aQ.out
          have f7:d.cell? ⟨b,13,none⟩=some (.slice (some ⟨F,0,none⟩) L3.length bu):=by rw [l.out d h.out];exact be.out
          have k0:d.cell? ⟨y,k,none⟩=some (.slice A m D):=by rw [l.out d h.out];exact r
          have k1:d.cell? ⟨F,k,none⟩=some (.int .i64 I):=by rw [l.out d h.out];exact t
          by_cases O:j<m
          ·obtain⟨g,rfl,u⟩:=Q.out j O;have g0:d.cell? ⟨g,j*4,none⟩=some (.int .i64 I):=by rw [l.out d h.out];exact u 0 _ rfl
           have g1:d.cell? ⟨g,j*4+1,none⟩=some (.int .i64 0):=by rw [l.out d h.out];exact u 1 _ rfl
           have g2:d.cell? ⟨g,j*4+2,none⟩=some (.int .i64 0):=by rw [l.out d h.out];exact u 2 _ rfl
           have g3:d.cell? ⟨g,j*4+3,none⟩=some (.int .i64 0):=by rw [l.out d h.out];exact u 3 _ rfl
           have q2:(0:Int)<=(j:Int):=by omega
           have R:(j:Int)<m:=by omega
           clear u r t;go_wp2_with fail
           go_quiet (fail)
           go_wp2_with fail
           go_roundw
           case rel=>exact⟨j+1,by omega,by go_num,il (jW h.out _)⟩
           case measure=>simp [intOf];omega
          ·have R:(m:Int)<=(j:Int):=by omega
           clear r t;go_wp2_with fail
           go_roundw
           case rel=>exact⟨k+1,by omega,by go_num,h⟩
           case measure=>simp [intOf];omega
        ·have N:(L3.length:Int)<=(k:Int):=by omega
         go_wp2_with fail
         go_loopw [11] (fun i w'=>∃ k:Nat,k<=L4.length/\i= .int .i64 k/\Hid (ju w' w)) (fun i _=>L4.length - (intOf i).toNat)
         case atStart=>exact⟨0,Nat.zero_le _,rfl,p⟩
         case round=>
          clear p;obtain⟨k,hk,rfl,p⟩:=hrel;obtain⟨q,E⟩:∃ q,q=wr:=⟨_,rfl⟩;rw [<-E]at p ⊢;clear E;have L:q.cell? ⟨b,14,none⟩=some (.slice a4 L4.length aN):=by rw [l.out q p.out];exact aR.out
          by_cases H:k<L4.length
          ·obtain⟨y,oc,F,mc,v,z,r,t⟩:=oG bS.out bL.out H;rw [bg.out]at v;rw [bM.out]at z;simp only [Value.slice.injEq,true_and]at v z;obtain⟨rfl,rfl⟩:=v;obtain⟨rfl,rfl⟩:=z;have J:=il (bT.out L4[k] (List.getElem_mem H));have q0:(0:Int)<=(k:Int):=by omega
           have N:(k:Int)<L4.length:=by omega
           generalize L4[k]=x at*;obtain⟨xv,I⟩:=x;simp only at r t;obtain⟨A,m,D,P,ak,C⟩:=yU J.out;subst P;have Q:=il C;clear C J;have M:q.cell? ⟨y,k,none⟩=some (.slice A m D):=by rw [l.out q p.out];exact r
           have qx:(m:Int)<=1000:=by omega
           go_wp2_with fail
           go_loopw [12] (fun i w'=>∃ j:Nat,j<=m/\i= .int .i64 j/\Hid (ju w' w)) (fun i _=>m - (intOf i).toNat)
           case atStart=>exact⟨0,Nat.zero_le _,rfl,p⟩
           case round=>
            clear L M p;obtain⟨j,hj,rfl,h⟩:=hrel;obtain⟨d,G⟩:∃ d,d=wr:=⟨_,rfl⟩;rw [<-G]at h ⊢;clear G;have f6:d.cell? ⟨b,14,none⟩=some (.slice (some ⟨y,0,none⟩) L4.length aN):=by rw [l.out d h.out];exact aR.out
            have f7:d.cell? ⟨b,15,none⟩=some (.slice (some ⟨F,0,none⟩) L4.length bw):=by rw [l.out d h.out];exact bz.out
            have k0:d.cell? ⟨y,k,none⟩=some (.slice A m D):=by rw [l.out d h.out];exact r
            have k1:d.cell? ⟨F,k,none⟩=some (.int .i64 I):=by rw [l.out d h.out];exact t
            by_cases O:j<m
            ·obtain⟨g,W,bt,rfl,u,X⟩:=Q.out j O;have g0:d.cell? ⟨g,j,none⟩=some (.slice (some ⟨W,0,none⟩) 1 bt):=by rw [l.out d h.out];exact u
             have g1:d.cell? ⟨W,0,none⟩=some (.int .i64 I):=by rw [l.out d h.out];simp [World.cell?,X,elC]
             have g2:d.cell? ⟨W,1,none⟩=some (.int .i64 0):=by rw [l.out d h.out];simp [World.cell?,X,elC]
             have g3:d.cell? ⟨W,2,none⟩=some (.int .i64 0):=by rw [l.out d h.out];simp [World.cell?,X,elC]
             have g4:d.cell? ⟨W,3,none⟩=some (.int .i64 0):=by rw [l.out d h.out];simp [World.cell?,X,elC]
             have q2:(0:Int)<=(j:Int):=by omega
             have R:(j:Int)<m:=by omega
             clear u X r t;go_wp2_with fail
             go_quiet (fail)
             go_wp2_with fail
             go_roundw
             case rel=>exact⟨j+1,by omega,by go_num,il (jW h.out _)⟩
             case measure=>simp [intOf];omega
            ·have R:(m:Int)<=(j:Int):=by omega
             clear r t;go_wp2_with fail
             go_roundw
             case rel=>exact⟨k+1,by omega,by go_num,h⟩
             case measure=>simp [intOf];omega
          ·have N:(L4.length:Int)<=(k:Int):=by omega
           go_wp2_with fail
           go_ret;exact⟨rfl,p.out⟩
end
section
open Go.RowKit
attribute [local go_sem] Go.World.cell?_alloc_some
theorem EG(m:Int)(xs:List Value)(k len:Nat)(hx:xs.length=len*1)(hk:k<len):(((List.replicate k (elC m 0)).flatten++xs.drop (k*1)).set (k) (.int .i64 m))=(List.replicate (k+1) (elC m 0)).flatten++xs.drop ((k+1)*1):=by
 obtain⟨c,f⟩:∃ c,c=(List.replicate k (elC m 0)).flatten:=⟨_,rfl⟩;have hyl:c.length=k*1:=by rw [f];exact mq _ _
 rw [<-kX,<-f];have d:1<=(xs.drop (k*1)).length:=by rw [List.length_drop];omega
 have h:xs.drop ((k+1)*1)=(xs.drop (k*1)).drop 1:=by rw [List.drop_drop];congr 1<;>omega
 rw [h];generalize xs.drop (k*1)=zs at d;obtain⟨b,a,rfl⟩:∃ b a,zs=b::a:=by
  match zs,d with
  | b::a,_=>exact⟨b,a,rfl⟩
 rw [List.set_append,if_neg (by omega)];have e:k - c.length=0:=by omega
 rw [e];simp [elC]
theorem oe(B:Nat)(w:World)(b:Nat)(who:Nat->Role)(n:Int)(f:Nat->Value)(K:Nat->List (Value × Int))(H:Value)(len:Nat)(xs:List Value)(q:HsK B w b who n f K)(C:w.ownsRow B 3 1 H len xs)(G:∀ g,H.ownBlock=some g->who g= .other)
  (aW:0<=n) (hn1:n<=10000000000000) (hK:(K 0).length<=5000000000000) (ha:len<=900):
  Calls Tryz.prog 31 #[pt b,H] w fun e w'=>(∃ v,e= .returned v)/\∃ who' f' K',HsK B w' b who' (n+1) f' K'/\oB 0 w w' who who' f f' K K' (fun g=>H.ownBlock=some g):=by
 obtain⟨i0,aK,a0,bb,aN⟩:=info_parts kn;obtain⟨i1,a2,bp,aH,aO⟩:=info_parts uh;obtain⟨i2,bl,aU,a7,T⟩:=info_parts kn;have av:=C.1;obtain⟨x1,x2,x3,rfl⟩:=iy C;have T:=(iC C).symm;subst T;have HM:=il (sR q.1 aW (by omega));have HO:=il G;have H0:Hid (WrG B 0 w (w.setCell ⟨b,5,none⟩ (.int .i64 (n+1))) b who (n+1) f (lw f 5 (.int .i64 (n+1))) K (.slice x1 len x3) len xs (-77000000 - (n+1)) 0):=by
  refine⟨⟨q.1.setCnt _,q.2⟩,?_,?_,fun o G=>iX _ _ (by omega)⟩
  ·have bi:(Value.slice x1 len x3).ownBlock≠some b:=fun e=>by have:=G b e;rw [q.1.wb]at this;cases this
   have h5:=ownsRow_setCell_other (a:=⟨b,5,none⟩) C bi (.int .i64 (n+1));have e5:(List.replicate 0 (elC (-77000000 - (n+1)) 0)).flatten++xs.drop (0*(elC (-77000000 - (n+1)) 0).length)=xs:=by simp
   rw [e5];exact h5
  ·exact Fr.set (Or.inl (by rw [q.1.wb];simp))
 have ap:pt b= .pointer (some ⟨b,0,none⟩):=rfl;rw [ap]at*;clear q C G ap;generalize hm: -77000000 - (n+1)=m at*;have HMM:=il hm;clear hm;go_enter Tryz.func31,Tryz.ntmps31
 go_wp2_with (go_at_call 55;refine HM.out.mono ?_;rintro e w1 ⟨rfl,rfl⟩)
 go_loopw [5] (fun i w'=>∃ k:Nat,k<=len/\i= .int .i64 k/\Hid (WrG B 0 w w' b who (n+1) f (lw f 5 (.int .i64 (n+1))) K (.slice x1 len x3) len xs m k)) (fun i _=>len - (intOf i).toNat)
 case atStart=>exact⟨0,Nat.zero_le _,rfl,H0⟩
 case round=>
  clear H0 HM;obtain⟨k,hk,rfl,x⟩:=hrel;obtain⟨h,ar⟩:∃ h,h=wr:=⟨_,rfl⟩;rw [<-ar]at x ⊢;clear ar;by_cases aZ:k<len
  ·obtain⟨g,cp,Y,_,_⟩:=x.out.row.form (by omega);have y:h.ownsRow B 3 1 (.slice x1 len x3) len ((List.replicate k (elC m 0)).flatten++xs.drop (k*1)):=x.out.row;rw [Y]at y;simp only [Value.slice.injEq,true_and]at Y;obtain⟨rfl,rfl⟩:=Y;have aq:=HO.out g rfl;obtain⟨u0,y0⟩:∃ u,h.cell? ⟨g,k,none⟩=some u:=lO y (by omega);have z0:h.frozen? ⟨g,k,none⟩=false:=lL y;have bq:Hid (WrG B 0 w (h.setCell ⟨g,k,none⟩ (.int .i64 m)) b who (n+1) f (lw f 5 (.int .i64 (n+1))) K (.slice (some ⟨g,0,none⟩) len x3) len xs m (k+1)):=by
    have hs:=x.out;refine⟨(hs.hs.setOther aq),?_,?_,hs.lent⟩
    ·have h9:=(jt y (k) (.int .i64 m));have J:=EG m xs k len av aZ;rw [J]at h9;exact h9
    ·exact(hs.fr).trans (Fr.set (Or.inr rfl))
   have q0:(0:Int)<=(k:Int):=by omega
   have q1:(k:Int)<len:=by omega
   clear y aq;go_wp2_with fail
   go_roundw
   case rel=>exact⟨k+1,by omega,by go_num,bq⟩
   case measure=>simp [intOf];omega
  ·have ek:k=len:=by omega
   have q1:(len:Int)<=(k:Int):=by omega
   have HS:Hid (∃ P,KpG B 0 w h b who P (n+1) m f (lw f 5 (.int .i64 (n+1))) K K (.slice x1 len x3) len 0 (fun g=>(Value.slice x1 len x3).ownBlock=some g)):=by
    have hi:=x.out;rw [ek]at hi;exact hi.kp (by omega) av (by omega) HO.out
   clear x ek;go_wp2_with fail
   go_loopw [1,6] (fun lv' i w'=>∃ (k:Nat) (who':Nat->Role) (f':Nat->Value) (K':Nat->List (Value × Int)),k<=4/\i= .int .i64 k/\Hid (KpG B 0 w w' b who who' (n+1) m f f' K K' lv' (len+k) k (fun g=>(Value.slice x1 len x3).ownBlock=some g))) (fun _ i _=>4 - (intOf i).toNat)
   case atStart=>
    obtain⟨P,h1⟩:=HS.out;exact⟨0,P,_,K,by omega,rfl,il h1⟩
   case round=>
    clear HS;obtain⟨j,who',f',K',hj,rfl,d⟩:=hrel;obtain⟨c,au⟩:∃ c,c=wr:=⟨_,rfl⟩;rw [<-au]at d ⊢;clear au;have z:c.ownsRow B 39 1 (f' 6) (K' 0).length ((K' 0).map (·.1)):=d.out.hs.lst 0 (by omega);have rM:c.ownsRow B 3 1 (f' 7) (K' 0).length (iM ((K' 0).map (·.2))):=by have:=d.out.hs.mrk 0 (by omega);simpa [jp]using this
    have I:c.ownsRow B 3 1 u1 (len+j) (List.replicate (len+j) (elC m 0)).flatten:=d.out.cu.row;have a4:Hid ((K' 0).length=(K 0).length+j):=d.out.len;have c6:c.cell? ⟨b,6,none⟩=some (f' 6):=d.out.hs.blk.cell (by omega);have hbase:B<=c.heap.size:=by have:=d.out.hs.blk.lt;have:=(d.out.hs.dom b (by rw [d.out.hs.wb];simp)).1;omega
    obtain⟨s,l2,r,rfl⟩:=iy I;have aR:=iC I;subst aR;obtain⟨M,o2,O,Z⟩:=iy z;rw [Z]at z c6;have bj:=iC z;subst bj;have bf:(K' 0).length<=5000000000003\/¬j<4:=by have:=a4.out;omega
    have aP:=il I;have aC:=il z;have X:=il Z;have br:=il rM;clear I z rM Z;by_cases hj4:j<4
    ·have bf:(K' 0).length<=5000000000003:=by omega
     have z2:(j:Int)<4:=by omega
     have al:(K' 0).length+1<=maxLen:=by unfold maxLen;omega
     have aV:len+j+1<=maxLen:=by unfold maxLen;omega
     have aa:Hid (∀ {o:Obj} {g6 c6:Nat} {w6:World},w6.ownsRow B 39 1 (.slice (some ⟨g6,0,none⟩) ((K' 0).length+1) c6) ((K' 0).length+1) ((K' 0).map (·.1)++[.slice s (len+j) r])->
       (((Value.slice M (K' 0).length O).ownBlock=some g6/\(c.alloc o).grownBy w6 (some g6))\/(g6=c.heap.size+1/\(c.alloc o).grownBy w6 none))->
       HB w6 b f'/\∃ who'' f'',KpA B 0 w (w6.setCell ⟨b,6,none⟩ (.slice (some ⟨g6,0,none⟩) ((K' 0).length+1) c6)) b who who'' (n+1) m f f'' K K' (.slice s (len+j) r) (len+j) j (fun g=>(Value.slice x1 len x3).ownBlock=some g)/\f'' 7=f' 7):=by
      intro o g6 c6 w6 a3 key;rw [<-X.out]at key;exact d.out.push (by omega) a3 key
     generalize aw:(K' 0).length=N at*;generalize a5:(K' 0).map (·.1)=L1 at*;have V:=il aw;clear aw a5;go_upto_region 9 with (at_builtin;go_must (refine iH rfl _ _ _ rfl B 39 i1 _ 1 24 Tryz.underlying23 a2 bp aH aO rfl (by omega) (.slice M N O) N L1 rfl (iK aC.out) ⟨c.heap.size,0,none⟩ 1 1 [.slice s (len+j) r] rfl rfl (World.news_of_block (cs:= #[.slice s (len+j) r]) (t:=39) (fr:=(0,0)) (heap_alloc_new c _)) (by simp [Value.oneCell']) (by omega) al (by omega) (by simp;omega) (c.heap.size+1) (by simp) ?_);intro g8 a6 w8 S ae bo;have U:=(aa.out S ae).1;have L:w8.cell? ⟨b,6,none⟩=some (.slice M N O):=(by rw [U.cell (by omega),X.out]);have Q:=U.frozen 6)
     obtain⟨_,who9,f9,l,J⟩:=aa.out S ae;generalize w8.setCell ⟨b,6,none⟩ (.slice (some ⟨g8,0,none⟩) (N+1) a6)=w9 at*;have ad:=il l;have A:w9.ownsRow B 3 1 (f9 7) N (iM ((K' 0).map (·.2))):=by
      have:=l.hs.mrk 0 (by omega);rw [<-V.out];simpa [jp]using this
     have c7:w9.cell? ⟨b,7,none⟩=some (f9 7):=l.hs.blk.cell (by omega);obtain⟨E,m2,F,R⟩:=iy A;rw [R]at A c7;have aJ:=(iC A).symm;subst aJ;have hbase9:B<=w9.heap.size:=by have:=l.hs.blk.lt;have:=(l.hs.dom b (by rw [l.hs.wb];simp)).1;omega
     have ao:=il A;have D:=il R;clear S ae U L Q bo c6 l J aa A R X aC br;go_upto_region 10 with (at_builtin;go_must (refine iH rfl _ _ _ rfl B 3 i2 _ 1 8 Tryz.underlying39 bl aU a7 T rfl (by omega) (.slice E N F) N (iM ((K' 0).map (·.2))) rfl (iK ao.out) ⟨w9.heap.size,0,none⟩ 1 1 [.int .i64 m] rfl rfl (World.news_of_block (cs:= #[.int .i64 m]) (t:=3) (fr:=(0,0)) (heap_alloc_new w9 _)) (by simp [Value.oneCell']) (by omega) al (by omega) (by simp;omega) (w9.heap.size+1) (by simp) ?_);intro aI bn aD ag af a8;have W:=(ad.out.tell (by omega) (M1:=E) (M3:=F) D.out V.out ag af).1;have L:aD.cell? ⟨b,7,none⟩=some (.slice E N F):=(by rw [W.cell (by omega),D.out]);have Q:=W.frozen 7)
     obtain⟨_,who11,f11,p⟩:=ad.out.tell (by omega) (M1:=E) (M3:=F) D.out V.out ag af;generalize aD.setCell ⟨b,7,none⟩ (.slice (some ⟨aI,0,none⟩) (N+1) bn)=w11 at*;have bh:=il p;have aX:Hid (w11.ownsRow B 3 1 (.slice s (len+j) r) (len+j) (List.replicate (len+j) (elC m 0)).flatten):=p.cu.row;have hbase11:B<=w11.heap.size:=by have:=p.hs.blk.lt;have:=(p.hs.dom b (by rw [p.hs.wb];simp)).1;omega
     clear ag af W L Q a8 c7 p ad ao D aP;go_wp2_with (at_builtin;go_must (refine iH rfl _ _ _ rfl B 3 i0 _ 1 8 Tryz.underlying39 aK a0 bb aN rfl (by omega) (.slice s (len+j) r) (len+j) (List.replicate (len+j) (elC m 0)).flatten rfl (iK aX.out) ⟨w11.heap.size,0,none⟩ 1 1 [.int .i64 m] rfl rfl (World.news_of_block (cs:= #[.int .i64 m]) (t:=3) (fr:=(0,0)) (heap_alloc_new w11 _)) (by simp [Value.oneCell']) (by omega) aV (by omega) (by simp;omega) (w11.heap.size+1) (by simp) ?_);intro g12 cap12 w12 aA am be;have ba:=il (bh.out.grow (by omega) (by omega) aA am);clear aA am be)
     go_roundw
     case rel=>
      obtain⟨a9,bc⟩:=ba.out;exact⟨j+1,a9,_,_,by omega,by go_num,il bc⟩
     case measure=>simp [intOf];omega
    ·have z2:(4:Int)<=(j:Int):=by omega
     have HE:Hid (∃ who' f' K',HsK B c b who' (n+1) f' K'/\oB 0 w c who who' f f' K K' (fun g=>(Value.slice x1 len x3).ownBlock=some g)):=by
      have ej:j=4:=by omega
      have hk:=d.out;rw [ej]at hk;exact hk.done
     go_wp2_with fail
     go_end0
     exact⟨⟨_,rfl⟩,HE.out⟩
end
end Go.Proofs.YtklenjmfalljgabGreatDoor
