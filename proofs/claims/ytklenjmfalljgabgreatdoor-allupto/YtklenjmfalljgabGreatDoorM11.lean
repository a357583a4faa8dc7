/- The texts Hgv Hgd1 Hgd2 Hgs Hgr. -/
import Derived.Test.YtklenjmfalljgabGreatDoorM02
import Derived.Test.YtklenjmfalljgabGreatDoorM06
import Derived.Test.YtklenjmfalljgabGreatDoorM07
import Derived.Test.YtklenjmfalljgabGreatDoorM08
import Derived.Test.YtklenjmfalljgabGreatDoorM10
namespace Go.Proofs.YtklenjmfalljgabGreatDoor
set_option maxRecDepth 100000
set_option maxHeartbeats 8000000
section
open Go.RowKit
theorem my{B:Nat}{W w:World}{b:Nat}{who:Nat->Role}{n:Int}{f:Nat->Value}{K:Nat->List (Value × Int)}{sv:Value}{s:List Int}(i:HsK B w b who n f K)(hWB:W.heap.size<=B)(k:IntsAt W.heap.size W sv s):valOther who sv:=by
 intro g o l c e hl;obtain⟨ao,cap,rfl,_,h⟩:=k;simp only [Value.slice.injEq]at e;obtain⟨j,e2,_⟩:=e;obtain⟨g',o',a,e4,_⟩:=h 0 (by omega);rw [j]at a;simp only [Option.some.injEq,Addr.mk.injEq,and_true]at a;by_cases d:who g= .other
 ·exact d
 ·have:=(i.1.dom g d).1;omega
def HzG(W:World)(B b:Nat)(n:Int)(K:Nat->List (Value × Int))(e:Ending)(w':World):Prop:=
 e= .returned (.bool true)/\∃ who' f' K',Hz B w' b who' n f' K'/\W.grownBy w' none/\∀ c,c<5->(K' c).length<=(K c).length+4
theorem Fr.step0{w w1 w2:World}{who who1 who2:Nat->Role}{ex:Nat->Prop}(h:Fr w w1 who who1 ex)(hf:Fr w1 w2 who1 who2 (fun _=>False)):Fr w w2 who who2 ex:=h.trans (hf.mono fun _ e=>e.elim)
theorem Fr.stepG{w w1 w2:World}{who who1:Nat->Role}{ex:Nat->Prop}(h:Fr w w1 who who1 ex)(hg:w1.grownBy w2 none):Fr w w2 who who1 ex:=h.trans (Fr.grown hg)
def HzF(W:World)(B b:Nat)(n:Int)(K:Nat->List (Value × Int))(w:World)(who:Nat->Role)(e:Ending)(w':World):Prop:=
 e= .returned (.bool true)/\∃ who' f' K',Hz B w' b who' n f' K'/\W.grownBy w' none/\(∀ c,c<5->(K' c).length<=(K c).length+4)/\Fr w w' who who' (fun g=>w.heap.size<=g)
theorem HzF.g{W w:World}{B b:Nat}{n:Int}{K:Nat->List (Value × Int)}{who:Nat->Role}{e:Ending}{w':World}(h:HzF W B b n K w who e w'):HzG W B b n K e w':=by
 obtain⟨j,c,f,k,d,a,i,_⟩:=h;exact⟨j,c,f,k,d,a,i⟩
def HzE(W:World)(B b:Nat)(n:Int)(K:Nat->List (Value × Int))(w:World)(who:Nat->Role)(e:Ending)(w':World):Prop:=
 e= .returned (.bool true)/\∃ who' f',Hz B w' b who' n f' K/\W.grownBy w' none/\Fr w w' who who' (fun g=>w.heap.size<=g)
theorem HzE.g{W w:World}{B b:Nat}{n:Int}{K:Nat->List (Value × Int)}{who:Nat->Role}{e:Ending}{w':World}(h:HzE W B b n K w who e w'):HzG W B b n K e w':=by
 obtain⟨d,f,j,i,a,_⟩:=h;exact⟨d,f,j,K,i,a,fun c _=>Nat.le_add_right _ _⟩
end
section
open Go.RowKit
attribute [local go_sem] Go.World.cell?_alloc_some
theorem Br:((Tryz.prog.info? 76).map fun i=>(i.zero,i.size,i.bytes))=some (some (.agg #[.int .i64 0,.int .i64 0]),2,16):=by kernel_rfl
theorem Cj:((Tryz.prog.info? 27).map fun i=>(i.zero,i.size,i.bytes))=some (some (.slice none 0 0),1,24):=by kernel_rfl
theorem DG(m:Int)(xs:List Value)(k len:Nat)(hx:xs.length=len*2)(hk:k<len):((((List.replicate k (elC m 1)).flatten++xs.drop (k*2)).set (k*2) (.int .i64 m)).set (k*2+1) (.int .i64 0))=(List.replicate (k+1) (elC m 1)).flatten++xs.drop ((k+1)*2):=by
 obtain⟨c,e⟩:∃ c,c=(List.replicate k (elC m 1)).flatten:=⟨_,rfl⟩;have h:c.length=k*2:=by rw [e];exact mq _ _
 rw [<-kX,<-e];have d:2<=(xs.drop (k*2)).length:=by rw [List.length_drop];omega
 have f:xs.drop ((k+1)*2)=(xs.drop (k*2)).drop 2:=by rw [List.drop_drop];congr 1<;>omega
 rw [f];generalize xs.drop (k*2)=zs at d;obtain⟨b,z1,a,rfl⟩:∃ b z1 a,zs=b::z1::a:=by
  match zs,d with
  | b::z1::a,_=>exact⟨b,z1,a,rfl⟩
 rw [<-h];simp [elC]
theorem wC(B:Nat)(w:World)(b:Nat)(who:Nat->Role)(n:Int)(f:Nat->Value)(K:Nat->List (Value × Int))(H:Value)(len:Nat)(xs:List Value)(r:HsK B w b who n f K)(C:w.ownsRow B 76 2 H len xs)(G:∀ g,H.ownBlock=some g->who g= .other)
  (aW:0<=n) (hn1:n<=10000000000000) (hK:(K 1).length<=5000000000000) (ha:len<=900):
  Calls Tryz.prog 25 #[pt b,H] w fun e w'=>(∃ v,e= .returned v)/\∃ who' f' K',HsK B w' b who' (n+1) f' K'/\oB 1 w w' who who' f f' K K' (fun g=>H.ownBlock=some g):=by
 obtain⟨i0,aK,a0,bc,aN⟩:=info_parts Br;obtain⟨i1,a2,bq,aH,aO⟩:=info_parts Cj;obtain⟨i2,bm,aU,a8,U⟩:=info_parts kn;have av:=C.1;obtain⟨x1,x2,x3,rfl⟩:=iy C;have U:=(iC C).symm;subst U;have HM:=il (sR r.1 aW (by omega));have HO:=il G;have H0:Hid (WrG B 1 w (w.setCell ⟨b,5,none⟩ (.int .i64 (n+1))) b who (n+1) f (lw f 5 (.int .i64 (n+1))) K (.slice x1 len x3) len xs (-77000000 - (n+1)) 0):=by
  refine⟨⟨r.1.setCnt _,r.2⟩,?_,?_,fun o G=>iX _ _ (by omega)⟩
  ·have bj:(Value.slice x1 len x3).ownBlock≠some b:=fun e=>by have:=G b e;rw [r.1.wb]at this;cases this
   have h5:=ownsRow_setCell_other (a:=⟨b,5,none⟩) C bj (.int .i64 (n+1));have e5:(List.replicate 0 (elC (-77000000 - (n+1)) 1)).flatten++xs.drop (0*(elC (-77000000 - (n+1)) 1).length)=xs:=by simp
   rw [e5];exact h5
  ·exact Fr.set (Or.inl (by rw [r.1.wb];simp))
 have aq:pt b= .pointer (some ⟨b,0,none⟩):=rfl;rw [aq]at*;clear r C G aq;generalize hm: -77000000 - (n+1)=m at*;have HMM:=il hm;clear hm;go_enter Tryz.func25,Tryz.ntmps25
 go_wp2_with (go_at_call 55;refine HM.out.mono ?_;rintro e w1 ⟨rfl,rfl⟩)
 go_loopw [5] (fun i w'=>∃ k:Nat,k<=len/\i= .int .i64 k/\Hid (WrG B 1 w w' b who (n+1) f (lw f 5 (.int .i64 (n+1))) K (.slice x1 len x3) len xs m k)) (fun i _=>len - (intOf i).toNat)
 case atStart=>exact⟨0,Nat.zero_le _,rfl,H0⟩
 case round=>
  clear H0 HM;obtain⟨k,hk,rfl,y⟩:=hrel;obtain⟨h,ar⟩:∃ h,h=wr:=⟨_,rfl⟩;rw [<-ar]at y ⊢;clear ar;by_cases aZ:k<len
  ·obtain⟨g,cp,Z,_,_⟩:=y.out.row.form (by omega);have l:h.ownsRow B 76 2 (.slice x1 len x3) len ((List.replicate k (elC m 1)).flatten++xs.drop (k*2)):=y.out.row;rw [Z]at l;simp only [Value.slice.injEq,true_and]at Z;obtain⟨rfl,rfl⟩:=Z;have O:=HO.out g rfl;obtain⟨u0,y0⟩:∃ u,h.cell? ⟨g,k*2,none⟩=some u:=lO l (by omega);have z0:h.frozen? ⟨g,k*2,none⟩=false:=lL l;obtain⟨u1,y1⟩:∃ u,h.cell? ⟨g,k*2+1,none⟩=some u:=lO l (by omega);have z1:h.frozen? ⟨g,k*2+1,none⟩=false:=lL l;have br:Hid (WrG B 1 w ((h.setCell ⟨g,k*2,none⟩ (.int .i64 m)).setCell ⟨g,k*2+1,none⟩ (.int .i64 0)) b who (n+1) f (lw f 5 (.int .i64 (n+1))) K (.slice (some ⟨g,0,none⟩) len x3) len xs m (k+1)):=by
    have hs:=y.out;refine⟨((hs.hs.setOther O).setOther O),?_,?_,hs.lent⟩
    ·have h9:=(jt (jt l (k*2) (.int .i64 m)) (k*2+1) (.int .i64 0));have J:=DG m xs k len av aZ;rw [J]at h9;exact h9
    ·exact((hs.fr).trans (Fr.set (Or.inr rfl))).trans (Fr.set (Or.inr rfl))
   have q0:(0:Int)<=(k:Int):=by omega
   have q1:(k:Int)<len:=by omega
   clear l O;go_wp2_with fail
   go_roundw
   case rel=>exact⟨k+1,by omega,by go_num,br⟩
   case measure=>simp [intOf];omega
  ·have ek:k=len:=by omega
   have q1:(len:Int)<=(k:Int):=by omega
   have HS:Hid (∃ Q,KpG B 1 w h b who Q (n+1) m f (lw f 5 (.int .i64 (n+1))) K K (.slice x1 len x3) len 0 (fun g=>(Value.slice x1 len x3).ownBlock=some g)):=by
    have hi:=y.out;rw [ek]at hi;exact hi.kp (by omega) av (by omega) HO.out
   clear y ek;go_wp2_with fail
   go_loopw [1,6] (fun lv' i w'=>∃ (k:Nat) (who':Nat->Role) (f':Nat->Value) (K':Nat->List (Value × Int)),k<=4/\i= .int .i64 k/\Hid (KpG B 1 w w' b who who' (n+1) m f f' K K' lv' (len+k) k (fun g=>(Value.slice x1 len x3).ownBlock=some g))) (fun _ i _=>4 - (intOf i).toNat)
   case atStart=>
    obtain⟨Q,h1⟩:=HS.out;exact⟨0,Q,_,K,by omega,rfl,il h1⟩
   case round=>
    clear HS;obtain⟨j,who',f',K',hj,rfl,d⟩:=hrel;obtain⟨c,au⟩:∃ c,c=wr:=⟨_,rfl⟩;rw [<-au]at d ⊢;clear au;have z:c.ownsRow B 27 1 (f' 8) (K' 1).length ((K' 1).map (·.1)):=d.out.hs.lst 1 (by omega);have rM:c.ownsRow B 3 1 (f' 9) (K' 1).length (iM ((K' 1).map (·.2))):=by have:=d.out.hs.mrk 1 (by omega);simpa [jp]using this
    have I:c.ownsRow B 76 2 u1 (len+j) (List.replicate (len+j) (elC m 1)).flatten:=d.out.cu.row;have a4:Hid ((K' 1).length=(K 1).length+j):=d.out.len;have c6:c.cell? ⟨b,8,none⟩=some (f' 8):=d.out.hs.blk.cell (by omega);have hbase:B<=c.heap.size:=by have:=d.out.hs.blk.lt;have:=(d.out.hs.dom b (by rw [d.out.hs.wb];simp)).1;omega
    obtain⟨x,l2,s,rfl⟩:=iy I;have aR:=iC I;subst aR;obtain⟨M,o2,P,eO⟩:=iy z;rw [eO]at z c6;have bk:=iC z;subst bk;have bg:(K' 1).length<=5000000000003\/¬j<4:=by have:=a4.out;omega
    have aP:=il I;have aC:=il z;have Y:=il eO;have bt:=il rM;clear I z rM eO;by_cases hj4:j<4
    ·have bg:(K' 1).length<=5000000000003:=by omega
     have z2:(j:Int)<4:=by omega
     have am:(K' 1).length+1<=maxLen:=by unfold maxLen;omega
     have aV:len+j+1<=maxLen:=by unfold maxLen;omega
     have ab:Hid (∀ {o:Obj} {g6 c6:Nat} {w6:World},w6.ownsRow B 27 1 (.slice (some ⟨g6,0,none⟩) ((K' 1).length+1) c6) ((K' 1).length+1) ((K' 1).map (·.1)++[.slice x (len+j) s])->
       (((Value.slice M (K' 1).length P).ownBlock=some g6/\(c.alloc o).grownBy w6 (some g6))\/(g6=c.heap.size+1/\(c.alloc o).grownBy w6 none))->
       HB w6 b f'/\∃ who'' f'',KpA B 1 w (w6.setCell ⟨b,8,none⟩ (.slice (some ⟨g6,0,none⟩) ((K' 1).length+1) c6)) b who who'' (n+1) m f f'' K K' (.slice x (len+j) s) (len+j) j (fun g=>(Value.slice x1 len x3).ownBlock=some g)/\f'' 9=f' 9):=by
      intro o g6 c6 w6 a3 key;rw [<-Y.out]at key;exact d.out.push (by omega) a3 key
     generalize aw:(K' 1).length=N at*;generalize a6:(K' 1).map (·.1)=L1 at*;have W:=il aw;clear aw a6;go_upto_region 9 with (at_builtin;go_must (refine iH rfl _ _ _ rfl B 27 i1 _ 1 24 Tryz.underlying42 a2 bq aH aO rfl (by omega) (.slice M N P) N L1 rfl (iK aC.out) ⟨c.heap.size,0,none⟩ 1 1 [.slice x (len+j) s] rfl rfl (World.news_of_block (cs:= #[.slice x (len+j) s]) (t:=27) (fr:=(0,0)) (heap_alloc_new c _)) (by simp [Value.oneCell']) (by omega) am (by omega) (by simp;omega) (c.heap.size+1) (by simp) ?_);intro g8 a7 w8 T af bp;have V:=(ab.out T af).1;have L:w8.cell? ⟨b,8,none⟩=some (.slice M N P):=(by rw [V.cell (by omega),Y.out]);have R:=V.frozen 8)
     obtain⟨_,who9,f9,p,J⟩:=ab.out T af;generalize w8.setCell ⟨b,8,none⟩ (.slice (some ⟨g8,0,none⟩) (N+1) a7)=w9 at*;have ae:=il p;have A:w9.ownsRow B 3 1 (f9 9) N (iM ((K' 1).map (·.2))):=by
      have:=p.hs.mrk 1 (by omega);rw [<-W.out];simpa [jp]using this
     have c7:w9.cell? ⟨b,9,none⟩=some (f9 9):=p.hs.blk.cell (by omega);obtain⟨E,m2,F,S⟩:=iy A;rw [S]at A c7;have aJ:=(iC A).symm;subst aJ;have hbase9:B<=w9.heap.size:=by have:=p.hs.blk.lt;have:=(p.hs.dom b (by rw [p.hs.wb];simp)).1;omega
     have ap:=il A;have D:=il S;clear T af V L R bp c6 p J ab A S Y aC bt;go_upto_region 10 with (at_builtin;go_must (refine iH rfl _ _ _ rfl B 3 i2 _ 1 8 Tryz.underlying39 bm aU a8 U rfl (by omega) (.slice E N F) N (iM ((K' 1).map (·.2))) rfl (iK ap.out) ⟨w9.heap.size,0,none⟩ 1 1 [.int .i64 m] rfl rfl (World.news_of_block (cs:= #[.int .i64 m]) (t:=3) (fr:=(0,0)) (heap_alloc_new w9 _)) (by simp [Value.oneCell']) (by omega) am (by omega) (by simp;omega) (w9.heap.size+1) (by simp) ?_);intro aI bo aD ah ag a9;have X:=(ae.out.tell (by omega) (M1:=E) (M3:=F) D.out W.out ah ag).1;have L:aD.cell? ⟨b,9,none⟩=some (.slice E N F):=(by rw [X.cell (by omega),D.out]);have R:=X.frozen 9)
     obtain⟨_,who11,f11,q⟩:=ae.out.tell (by omega) (M1:=E) (M3:=F) D.out W.out ah ag;generalize aD.setCell ⟨b,9,none⟩ (.slice (some ⟨aI,0,none⟩) (N+1) bo)=w11 at*;have bi:=il q;have aX:Hid (w11.ownsRow B 76 2 (.slice x (len+j) s) (len+j) (List.replicate (len+j) (elC m 1)).flatten):=q.cu.row;have hbase11:B<=w11.heap.size:=by have:=q.hs.blk.lt;have:=(q.hs.dom b (by rw [q.hs.wb];simp)).1;omega
     clear ah ag X L R a9 c7 q ae ap D aP;go_wp2_with (at_builtin;go_must (refine iH rfl _ _ _ rfl B 76 i0 _ 2 16 Tryz.underlying27 aK a0 bc aN rfl (by omega) (.slice x (len+j) s) (len+j) (List.replicate (len+j) (elC m 1)).flatten rfl (iK aX.out) ⟨w11.heap.size,0,none⟩ 1 1 [.int .i64 m,.int .i64 0] rfl rfl (World.news_of_block (cs:= #[.int .i64 m,.int .i64 0]) (t:=76) (fr:=(0,0)) (heap_alloc_new w11 _)) (by simp [Value.oneCell']) (by omega) aV (by omega) (by simp;omega) (w11.heap.size+1) (by simp) ?_);intro g12 cap12 w12 aA an bf;have bb:=il (bi.out.grow (by omega) (by omega) aA an);clear aA an bf)
     go_roundw
     case rel=>
      obtain⟨ba,bd⟩:=bb.out;exact⟨j+1,ba,_,_,by omega,by go_num,il bd⟩
     case measure=>simp [intOf];omega
    ·have z2:(4:Int)<=(j:Int):=by omega
     have HE:Hid (∃ who' f' K',HsK B c b who' (n+1) f' K'/\oB 1 w c who who' f f' K K' (fun g=>(Value.slice x1 len x3).ownBlock=some g)):=by
      have ej:j=4:=by omega
      have hk:=d.out;rw [ej]at hk;exact hk.done
     go_wp2_with fail
     go_end0
     exact⟨⟨_,rfl⟩,HE.out⟩
theorem C9:((Tryz.prog.info? 28).map fun i=>(i.zero,i.size,i.bytes))=some (some (.agg #[.int .i64 0,.int .i64 0,.int .i64 0,.int .i64 0]),4,32):=by kernel_rfl
theorem Da:((Tryz.prog.info? 29).map fun i=>(i.zero,i.size,i.bytes))=some (some (.slice none 0 0),1,24):=by kernel_rfl
theorem DO(m:Int)(xs:List Value)(k len:Nat)(hx:xs.length=len*4)(hk:k<len):((((((List.replicate k (elC m 2)).flatten++xs.drop (k*4)).set (k*4) (.int .i64 m)).set (k*4+1) (.int .i64 1)).set (k*4+2) (.int .i64 2)).set (k*4+3) (.int .i64 3))=(List.replicate (k+1) (elC m 2)).flatten++xs.drop ((k+1)*4):=by
 obtain⟨e,h⟩:∃ e,e=(List.replicate k (elC m 2)).flatten:=⟨_,rfl⟩;have j:e.length=k*4:=by rw [h];exact mq _ _
 rw [<-kX,<-h];have f:4<=(xs.drop (k*4)).length:=by rw [List.length_drop];omega
 have i:xs.drop ((k+1)*4)=(xs.drop (k*4)).drop 4:=by rw [List.drop_drop];congr 1<;>omega
 rw [i];generalize xs.drop (k*4)=zs at f;obtain⟨b,z1,d,c,a,rfl⟩:∃ b z1 d c a,zs=b::z1::d::c::a:=by
  match zs,f with
  | b::z1::d::c::a,_=>exact⟨b,z1,d,c,a,rfl⟩
 rw [<-j];simp [elC]
theorem yB(B:Nat)(w:World)(b:Nat)(who:Nat->Role)(n:Int)(f:Nat->Value)(K:Nat->List (Value × Int))(I:Value)(len:Nat)(xs:List Value)(r:HsK B w b who n f K)(D:w.ownsRow B 28 4 I len xs)(H:∀ g,I.ownBlock=some g->who g= .other)
  (aX:0<=n) (hn1:n<=10000000000000) (hK:(K 2).length<=5000000000000) (ha:len<=900):
  Calls Tryz.prog 26 #[pt b,I] w fun e w'=>(∃ v,e= .returned v)/\∃ who' f' K',HsK B w' b who' (n+1) f' K'/\oB 2 w w' who who' f f' K K' (fun g=>I.ownBlock=some g):=by
 obtain⟨i0,aL,a0,bc,aO⟩:=info_parts C9;obtain⟨i1,a2,bq,aI,aP⟩:=info_parts Da;obtain⟨i2,bm,aV,a8,U⟩:=info_parts kn;have aw:=D.1;obtain⟨x1,x2,x3,rfl⟩:=iy D;have U:=(iC D).symm;subst U;have HM:=il (sR r.1 aX (by omega));have HO:=il H;have H0:Hid (WrG B 2 w (w.setCell ⟨b,5,none⟩ (.int .i64 (n+1))) b who (n+1) f (lw f 5 (.int .i64 (n+1))) K (.slice x1 len x3) len xs (-77000000 - (n+1)) 0):=by
  refine⟨⟨r.1.setCnt _,r.2⟩,?_,?_,fun o H=>iX _ _ (by omega)⟩
  ·have bj:(Value.slice x1 len x3).ownBlock≠some b:=fun e=>by have:=H b e;rw [r.1.wb]at this;cases this
   have h5:=ownsRow_setCell_other (a:=⟨b,5,none⟩) D bj (.int .i64 (n+1));have e5:(List.replicate 0 (elC (-77000000 - (n+1)) 2)).flatten++xs.drop (0*(elC (-77000000 - (n+1)) 2).length)=xs:=by simp
   rw [e5];exact h5
  ·exact Fr.set (Or.inl (by rw [r.1.wb];simp))
 have aq:pt b= .pointer (some ⟨b,0,none⟩):=rfl;rw [aq]at*;clear r D H aq;generalize hm: -77000000 - (n+1)=m at*;have HMM:=il hm;clear hm;go_enter Tryz.func26,Tryz.ntmps26
 go_wp2_with (go_at_call 55;refine HM.out.mono ?_;rintro e w1 ⟨rfl,rfl⟩)
 go_loopw [5] (fun i w'=>∃ k:Nat,k<=len/\i= .int .i64 k/\Hid (WrG B 2 w w' b who (n+1) f (lw f 5 (.int .i64 (n+1))) K (.slice x1 len x3) len xs m k)) (fun i _=>len - (intOf i).toNat)
 case atStart=>exact⟨0,Nat.zero_le _,rfl,H0⟩
 case round=>
  clear H0 HM;obtain⟨k,hk,rfl,y⟩:=hrel;obtain⟨d,ar⟩:∃ d,d=wr:=⟨_,rfl⟩;rw [<-ar]at y ⊢;clear ar;by_cases aZ:k<len
  ·obtain⟨g,cp,Z,_,_⟩:=y.out.row.form (by omega);have l:d.ownsRow B 28 4 (.slice x1 len x3) len ((List.replicate k (elC m 2)).flatten++xs.drop (k*4)):=y.out.row;rw [Z]at l;simp only [Value.slice.injEq,true_and]at Z;obtain⟨rfl,rfl⟩:=Z;have z:=HO.out g rfl;obtain⟨u0,y0⟩:∃ u,d.cell? ⟨g,k*4,none⟩=some u:=lO l (by omega);have z0:d.frozen? ⟨g,k*4,none⟩=false:=lL l;obtain⟨u1,y1⟩:∃ u,d.cell? ⟨g,k*4+1,none⟩=some u:=lO l (by omega);have z1:d.frozen? ⟨g,k*4+1,none⟩=false:=lL l;obtain⟨u2,y2⟩:∃ u,d.cell? ⟨g,k*4+2,none⟩=some u:=lO l (by omega);have z2:d.frozen? ⟨g,k*4+2,none⟩=false:=lL l;obtain⟨u3,y3⟩:∃ u,d.cell? ⟨g,k*4+3,none⟩=some u:=lO l (by omega);have z3:d.frozen? ⟨g,k*4+3,none⟩=false:=lL l;have br:Hid (WrG B 2 w ((((d.setCell ⟨g,k*4,none⟩ (.int .i64 m)).setCell ⟨g,k*4+1,none⟩ (.int .i64 1)).setCell ⟨g,k*4+2,none⟩ (.int .i64 2)).setCell ⟨g,k*4+3,none⟩ (.int .i64 3)) b who (n+1) f (lw f 5 (.int .i64 (n+1))) K (.slice (some ⟨g,0,none⟩) len x3) len xs m (k+1)):=by
    have hs:=y.out;refine⟨((((hs.hs.setOther z).setOther z).setOther z).setOther z),?_,?_,hs.lent⟩
    ·have h9:=(jt (jt (jt (jt l (k*4) (.int .i64 m)) (k*4+1) (.int .i64 1)) (k*4+2) (.int .i64 2)) (k*4+3) (.int .i64 3));have L:=DO m xs k len aw aZ;rw [L]at h9;exact h9
    ·exact((((hs.fr).trans (Fr.set (Or.inr rfl))).trans (Fr.set (Or.inr rfl))).trans (Fr.set (Or.inr rfl))).trans (Fr.set (Or.inr rfl))
   have q0:(0:Int)<=(k:Int):=by omega
   have q1:(k:Int)<len:=by omega
   clear l z;go_wp2_with fail
   go_roundw
   case rel=>exact⟨k+1,by omega,by go_num,br⟩
   case measure=>simp [intOf];omega
  ·have ek:k=len:=by omega
   have q1:(len:Int)<=(k:Int):=by omega
   have HS:Hid (∃ Q,KpG B 2 w d b who Q (n+1) m f (lw f 5 (.int .i64 (n+1))) K K (.slice x1 len x3) len 0 (fun g=>(Value.slice x1 len x3).ownBlock=some g)):=by
    have hi:=y.out;rw [ek]at hi;exact hi.kp (by omega) aw (by omega) HO.out
   clear y ek;go_wp2_with fail
   go_loopw [1,6] (fun lv' i w'=>∃ (k:Nat) (who':Nat->Role) (f':Nat->Value) (K':Nat->List (Value × Int)),k<=4/\i= .int .i64 k/\Hid (KpG B 2 w w' b who who' (n+1) m f f' K K' lv' (len+k) k (fun g=>(Value.slice x1 len x3).ownBlock=some g))) (fun _ i _=>4 - (intOf i).toNat)
   case atStart=>
    obtain⟨Q,h1⟩:=HS.out;exact⟨0,Q,_,K,by omega,rfl,il h1⟩
   case round=>
    clear HS;obtain⟨j,who',f',K',hj,rfl,h⟩:=hrel;obtain⟨c,au⟩:∃ c,c=wr:=⟨_,rfl⟩;rw [<-au]at h ⊢;clear au;have A:c.ownsRow B 29 1 (f' 10) (K' 2).length ((K' 2).map (·.1)):=h.out.hs.lst 2 (by omega);have rM:c.ownsRow B 3 1 (f' 11) (K' 2).length (iM ((K' 2).map (·.2))):=by have:=h.out.hs.mrk 2 (by omega);simpa [jp]using this
    have J:c.ownsRow B 28 4 u1 (len+j) (List.replicate (len+j) (elC m 2)).flatten:=h.out.cu.row;have a4:Hid ((K' 2).length=(K 2).length+j):=h.out.len;have c6:c.cell? ⟨b,10,none⟩=some (f' 10):=h.out.hs.blk.cell (by omega);have hbase:B<=c.heap.size:=by have:=h.out.hs.blk.lt;have:=(h.out.hs.dom b (by rw [h.out.hs.wb];simp)).1;omega
    obtain⟨x,l2,s,rfl⟩:=iy J;have aS:=iC J;subst aS;obtain⟨O,o2,P,eO⟩:=iy A;rw [eO]at A c6;have bk:=iC A;subst bk;have bg:(K' 2).length<=5000000000003\/¬j<4:=by have:=a4.out;omega
    have aQ:=il J;have aD:=il A;have Y:=il eO;have bt:=il rM;clear J A rM eO;by_cases hj4:j<4
    ·have bg:(K' 2).length<=5000000000003:=by omega
     have z2:(j:Int)<4:=by omega
     have am:(K' 2).length+1<=maxLen:=by unfold maxLen;omega
     have aW:len+j+1<=maxLen:=by unfold maxLen;omega
     have ab:Hid (∀ {o:Obj} {g6 c6:Nat} {w6:World},w6.ownsRow B 29 1 (.slice (some ⟨g6,0,none⟩) ((K' 2).length+1) c6) ((K' 2).length+1) ((K' 2).map (·.1)++[.slice x (len+j) s])->
       (((Value.slice O (K' 2).length P).ownBlock=some g6/\(c.alloc o).grownBy w6 (some g6))\/(g6=c.heap.size+1/\(c.alloc o).grownBy w6 none))->
       HB w6 b f'/\∃ who'' f'',KpA B 2 w (w6.setCell ⟨b,10,none⟩ (.slice (some ⟨g6,0,none⟩) ((K' 2).length+1) c6)) b who who'' (n+1) m f f'' K K' (.slice x (len+j) s) (len+j) j (fun g=>(Value.slice x1 len x3).ownBlock=some g)/\f'' 11=f' 11):=by
      intro o g6 c6 w6 a3 key;rw [<-Y.out]at key;exact h.out.push (by omega) a3 key
     generalize ax:(K' 2).length=N at*;generalize a6:(K' 2).map (·.1)=L1 at*;have W:=il ax;clear ax a6;go_upto_region 9 with (at_builtin;go_must (refine iH rfl _ _ _ rfl B 29 i1 _ 1 24 Tryz.underlying43 a2 bq aI aP rfl (by omega) (.slice O N P) N L1 rfl (iK aD.out) ⟨c.heap.size,0,none⟩ 1 1 [.slice x (len+j) s] rfl rfl (World.news_of_block (cs:= #[.slice x (len+j) s]) (t:=29) (fr:=(0,0)) (heap_alloc_new c _)) (by simp [Value.oneCell']) (by omega) am (by omega) (by simp;omega) (c.heap.size+1) (by simp) ?_);intro g8 a7 w8 T af bp;have V:=(ab.out T af).1;have M:w8.cell? ⟨b,10,none⟩=some (.slice O N P):=(by rw [V.cell (by omega),Y.out]);have R:=V.frozen 10)
     obtain⟨_,who9,f9,p,L⟩:=ab.out T af;generalize w8.setCell ⟨b,10,none⟩ (.slice (some ⟨g8,0,none⟩) (N+1) a7)=w9 at*;have ae:=il p;have C:w9.ownsRow B 3 1 (f9 11) N (iM ((K' 2).map (·.2))):=by
      have:=p.hs.mrk 2 (by omega);rw [<-W.out];simpa [jp]using this
     have c7:w9.cell? ⟨b,11,none⟩=some (f9 11):=p.hs.blk.cell (by omega);obtain⟨F,m2,G,S⟩:=iy C;rw [S]at C c7;have aK:=(iC C).symm;subst aK;have hbase9:B<=w9.heap.size:=by have:=p.hs.blk.lt;have:=(p.hs.dom b (by rw [p.hs.wb];simp)).1;omega
     have ap:=il C;have E:=il S;clear T af V M R bp c6 p L ab C S Y aD bt;go_upto_region 10 with (at_builtin;go_must (refine iH rfl _ _ _ rfl B 3 i2 _ 1 8 Tryz.underlying39 bm aV a8 U rfl (by omega) (.slice F N G) N (iM ((K' 2).map (·.2))) rfl (iK ap.out) ⟨w9.heap.size,0,none⟩ 1 1 [.int .i64 m] rfl rfl (World.news_of_block (cs:= #[.int .i64 m]) (t:=3) (fr:=(0,0)) (heap_alloc_new w9 _)) (by simp [Value.oneCell']) (by omega) am (by omega) (by simp;omega) (w9.heap.size+1) (by simp) ?_);intro aJ bo aE ah ag a9;have X:=(ae.out.tell (by omega) (M1:=F) (M3:=G) E.out W.out ah ag).1;have M:aE.cell? ⟨b,11,none⟩=some (.slice F N G):=(by rw [X.cell (by omega),E.out]);have R:=X.frozen 11)
     obtain⟨_,who11,f11,q⟩:=ae.out.tell (by omega) (M1:=F) (M3:=G) E.out W.out ah ag;generalize aE.setCell ⟨b,11,none⟩ (.slice (some ⟨aJ,0,none⟩) (N+1) bo)=w11 at*;have bi:=il q;have aY:Hid (w11.ownsRow B 28 4 (.slice x (len+j) s) (len+j) (List.replicate (len+j) (elC m 2)).flatten):=q.cu.row;have hbase11:B<=w11.heap.size:=by have:=q.hs.blk.lt;have:=(q.hs.dom b (by rw [q.hs.wb];simp)).1;omega
     clear ah ag X M R a9 c7 q ae ap E aQ;go_wp2_with (at_builtin;go_must (refine iH rfl _ _ _ rfl B 28 i0 _ 4 32 Tryz.underlying29 aL a0 bc aO rfl (by omega) (.slice x (len+j) s) (len+j) (List.replicate (len+j) (elC m 2)).flatten rfl (iK aY.out) ⟨w11.heap.size,0,none⟩ 1 1 [.int .i64 m,.int .i64 1,.int .i64 2,.int .i64 3] rfl rfl (World.news_of_block (cs:= #[.int .i64 m,.int .i64 1,.int .i64 2,.int .i64 3]) (t:=28) (fr:=(0,0)) (heap_alloc_new w11 _)) (by simp [Value.oneCell']) (by omega) aW (by omega) (by simp;omega) (w11.heap.size+1) (by simp) ?_);intro g12 cap12 w12 aB an bf;have bb:=il (bi.out.grow (by omega) (by omega) aB an);clear aB an bf)
     go_roundw
     case rel=>
      obtain⟨ba,bd⟩:=bb.out;exact⟨j+1,ba,_,_,by omega,by go_num,il bd⟩
     case measure=>simp [intOf];omega
    ·have z2:(4:Int)<=(j:Int):=by omega
     have HE:Hid (∃ who' f' K',HsK B c b who' (n+1) f' K'/\oB 2 w c who who' f f' K K' (fun g=>(Value.slice x1 len x3).ownBlock=some g)):=by
      have ej:j=4:=by omega
      have hk:=h.out;rw [ej]at hk;exact hk.done
     go_wp2_with fail
     go_end0
     exact⟨⟨_,rfl⟩,HE.out⟩
end
section
open Go.RowKit
theorem tP{w w':World}(h:w.drew.grownBy w' none):w.grownBy w' none:=⟨h.os,h.tape,h.output,h.size,h.block⟩
def rV(p:List (List Ins))(s:List Int):List (Int × Int):=if iD p s=0 then (iJ p s).steps else []
def rS(p:List (List Ins))(s:List Int):Nat:=if iD p s=0 then p.length else 0
theorem rz{p:List (List Ins)}{s:List Int}(h:iD p s=0):iV p=true/\s.length<=500:=by
 unfold iD at h;by_cases a:iV p=true
 ·by_cases b:s.length<=500
  ·exact⟨a,b⟩
  ·simp [a,b]at h
 ·simp [a]at h
theorem Dq(p:List (List Ins))(s:List Int):(rV p s).length<=500:=by
 unfold rV;by_cases h:iD p s=0
 ·rw [if_pos h];obtain⟨m,h1,_,a,_⟩:=ow p s 0 St.zero [];have h5:=(rz h).2;unfold iJ;simp at a;omega
 ·rw [if_neg h];simp
theorem DL(p:List (List Ins))(s:List Int):rS p s<=4:=by
 unfold rS;by_cases h:iD p s=0
 ·rw [if_pos h];exact(jA (rz h).1).2
 ·rw [if_neg h];omega
theorem ResV.rows{p:List (List Ins)}{s:List Int}{B:Nat}{w:World}{k t a l o r n c:Int}{x1 j:Option Addr}{m x3 q i:Nat}
  (h:ResV p s B w (.agg #[.int .i64 k,.int .i64 t,.int .i64 a,.slice x1 m x3,.int .i64 l,.int .i64 o,.int .i64 r,.int .i64 n,.slice j q i]) c):
  m=(rV p s).length/\q=rS p s/\w.ownsRow B 76 2 (.slice x1 m x3) m (iS (rV p s))/\w.ownsRow B 28 4 (.slice j q i) q (jq (rS p s) (iJ p s).st):=by
 obtain⟨k',t',a',u0,u1,u2,u3,z1,z3,r1,r3,m',q',e,hc,h⟩:=h;simp only [Value.agg.injEq,Array.mk.injEq,List.cons.injEq,Value.int.injEq,Value.slice.injEq,true_and,and_true]at e;obtain⟨rfl,rfl,rfl,⟨rfl,rfl,rfl⟩,rfl,rfl,rfl,rfl,rfl,rfl,rfl⟩:=e;rcases h with ⟨h0,_,_,_,_,_,_,_,hm,hq,h1,h2⟩ | ⟨h0,_,_,_,_,_,_,_,hm,hq,e1,e3,f1,f3⟩
 ·have b:iD p s=0:=by rw [<-hc,h0]
  have f:rV p s=(iJ p s).steps:=by unfold rV;rw [if_pos b]
  have d:rS p s=p.length:=by unfold rS;rw [if_pos b]
  refine⟨by rw [f,hm],by rw [d,hq],?_,?_⟩
  ·rw [f];rw [<-hm]at h1;exact h1
  ·rw [d];rw [hq]at h2 ⊢;exact h2
 ·have b:iD p s≠0:=by rw [<-hc];exact h0
  have f:rV p s=[]:=by unfold rV;rw [if_neg b]
  have d:rS p s=0:=by unfold rS;rw [if_neg b]
  subst hm hq e1 e3 f1 f3;exact⟨by rw [f];rfl,by rw [d],by rw [f];exact⟨rfl,Or.inl ⟨rfl,rfl⟩⟩,by rw [d];exact⟨rfl,Or.inl ⟨rfl,rfl⟩⟩⟩
theorem ut:∀ (l:List (Int × Int)) (j:Nat) (hj:j<l.length),(iS l)[j*2]?=some (.int .i64 l[j].1)/\(iS l)[j*2+1]?=some (.int .i64 l[j].2)
 | [],j,hj=>by simp at hj
 | x::l,0,hj=>by simp [iS]
 | x::l,j+1,hj=>by
  have h:=ut l j (by simpa using hj);have e:iS (x::l)=[.int .i64 x.1,.int .i64 x.2]++iS l:=by simp [iS]
  have e2:∀ q,(iS (x::l))[(j+1)*2+q]?=(iS l)[j*2+q]?:=fun q=>by
   rw [e,List.getElem?_append_right (by simp;omega)];congr 1
   simp;omega
  refine⟨?_,?_⟩
  ·have:=e2 0;simp only [Nat.add_zero]at this;rw [this];simpa using h.1
  ·rw [e2 1];simpa using h.2
theorem tr(s:St):∀ (n t:Nat),t<n->(jq n s)[t*4]?=some (.int .i64 (s.regs t 0))/\(jq n s)[t*4+1]?=some (.int .i64 (s.regs t 1))/\(jq n s)[t*4+2]?=some (.int .i64 (s.regs t 2))/\(jq n s)[t*4+3]?=some (.int .i64 (s.regs t 3))
 | 0,t,h=>by omega
 | n+1,t,h=>by
  have e:jq (n+1) s=jq n s++[.int .i64 (s.regs n 0),.int .i64 (s.regs n 1),.int .i64 (s.regs n 2),.int .i64 (s.regs n 3)]:=by
   unfold jq;rw [List.range_succ,List.flatMap_append];simp
  have a:=kk n s;rw [e];by_cases i:t<n
  ·obtain⟨d,c,f,b⟩:=tr s n t i;refine⟨?_,?_,?_,?_⟩
   ·rw [List.getElem?_append_left (by omega)];exact d
   ·rw [List.getElem?_append_left (by omega)];exact c
   ·rw [List.getElem?_append_left (by omega)];exact f
   ·rw [List.getElem?_append_left (by omega)];exact b
  ·have:t=n:=by omega
   subst this;refine⟨?_,?_,?_,?_⟩
   ·rw [List.getElem?_append_right (by omega),a,Nat.sub_self];rfl
   ·rw [List.getElem?_append_right (by omega),a,Nat.add_sub_cancel_left];rfl
   ·rw [List.getElem?_append_right (by omega),a,Nat.add_sub_cancel_left];rfl
   ·rw [List.getElem?_append_right (by omega),a,Nat.add_sub_cancel_left];rfl
theorem pj{w:World}{B:Nat}{e:TypeId}{z:Nat}{a:Option Addr}{m c n:Nat}{xs:List Value}(h:w.ownsRow B e z (.slice a m c) n xs)(hn:0<n):∃ g,a=some ⟨g,0,none⟩:=by
 rcases h.2 with ⟨_,e⟩ | ⟨g,cap,cur,hv,_⟩
 ·omega
 ·simp only [Value.slice.injEq]at hv;exact⟨g,hv.1⟩
def SamS(w:World)(x1 z1:Option Addr)(m:Nat):Prop:=∀ i,i<m->∃ g g' A D,x1=some ⟨g,0,none⟩/\z1=some ⟨g',0,none⟩/\w.cell? ⟨g,i*2,none⟩=some (.int .i64 A)/\w.cell? ⟨g,i*2+1,none⟩=some (.int .i64 D)/\w.cell? ⟨g',i*2,none⟩=some (.int .i64 A)/\w.cell? ⟨g',i*2+1,none⟩=some (.int .i64 D)
def SamR(w:World)(y1 r1:Option Addr)(q:Nat):Prop:=∀ i,i<q->∃ g g' A D E F,y1=some ⟨g,0,none⟩/\r1=some ⟨g',0,none⟩/\w.cell? ⟨g,i*4,none⟩=some (.int .i64 A)/\w.cell? ⟨g,i*4+1,none⟩=some (.int .i64 D)/\w.cell? ⟨g,i*4+2,none⟩=some (.int .i64 E)/\w.cell? ⟨g,i*4+3,none⟩=some (.int .i64 F)/\
 w.cell? ⟨g',i*4,none⟩=some (.int .i64 A)/\w.cell? ⟨g',i*4+1,none⟩=some (.int .i64 D)/\w.cell? ⟨g',i*4+2,none⟩=some (.int .i64 E)/\w.cell? ⟨g',i*4+3,none⟩=some (.int .i64 F)
theorem E2{w:World}{B e:Nat}{x1 z1:Option Addr}{m c j:Nat}{L:List (Int × Int)}(hm:m=L.length)(h:w.ownsRow B 76 2 (.slice x1 m c) m (iS L))(a:w.ownsRow e 76 2 (.slice z1 m j) m (iS L)):SamS w x1 z1 m:=by
 intro i hi;obtain⟨g,rfl⟩:=pj h (by omega);obtain⟨f,rfl⟩:=pj a (by omega);obtain⟨d,b⟩:=ut L i (by omega);exact⟨g,f,_,_,rfl,rfl,by rw [h.cellAt _ (by omega)];exact d,by rw [h.cellAt _ (by omega)];exact b,by rw [a.cellAt _ (by omega)];exact d,by rw [a.cellAt _ (by omega)];exact b⟩
theorem Eu{w:World}{B m:Nat}{e d:Option Addr}{q c o:Nat}{b:St}(h:w.ownsRow B 28 4 (.slice e q c) q (jq q b))(a:w.ownsRow m 28 4 (.slice d q o) q (jq q b)):SamR w e d q:=by
 intro i p;obtain⟨g,rfl⟩:=pj h (by omega);obtain⟨n,rfl⟩:=pj a (by omega);obtain⟨k,j,f,l⟩:=tr b q i p;exact⟨g,n,_,_,_,_,rfl,rfl,by rw [h.cellAt _ (by omega)];exact k,by rw [h.cellAt _ (by omega)];exact j,by rw [h.cellAt _ (by omega)];exact f,by rw [h.cellAt _ (by omega)];exact l,by rw [a.cellAt _ (by omega)];exact k,by rw [a.cellAt _ (by omega)];exact j,by rw [a.cellAt _ (by omega)];exact f,by rw [a.cellAt _ (by omega)];exact l⟩
theorem SamS.pres{w w':World}{x1 z1:Option Addr}{m:Nat}(h:SamS w x1 z1 m)(hp:Pres w w'):SamS w' x1 z1 m:=fun i hi=>by
 obtain⟨g,g',A,D,e1,e2,c1,c2,c3,c4⟩:=h i hi;exact⟨g,g',A,D,e1,e2,hp _ _ c1,hp _ _ c2,hp _ _ c3,hp _ _ c4⟩
theorem SamR.pres{w w':World}{x1 z1:Option Addr}{m:Nat}(h:SamR w x1 z1 m)(hp:Pres w w'):SamR w' x1 z1 m:=fun i hi=>by
 obtain⟨g,g',A,D,E,F,e1,e2,c1,c2,c3,c4,c5,c6,c7,c8⟩:=h i hi;exact⟨g,g',A,D,E,F,e1,e2,hp _ _ c1,hp _ _ c2,hp _ _ c3,hp _ _ c4,hp _ _ c5,hp _ _ c6,hp _ _ c7,hp _ _ c8⟩
theorem Ab{w:World}{B d:Nat}{v b:Value}{m q:Nat}{xs f:List Value}(h:w.ownsRow B 76 2 v m xs)(c:w.ownsRow d 28 4 b q f){g:Nat}(e:v.ownBlock=some g)(a:b.ownBlock=some g):False:=by
 rcases h.2 with ⟨rfl,_⟩ | ⟨g1,cap1,cur1,rfl,_,hh,_⟩
 ·cases e
 ·rcases c.2 with ⟨rfl,_⟩ | ⟨g2,cap2,cur2,rfl,_,hh',_⟩
  ·cases a
  ·simp only [Value.ownBlock,Option.some.injEq]at e a;subst e a;rw [hh]at hh';simp only [Option.some.injEq,Obj.cells.injEq]at hh';exact absurd hh'.2.1 (by decide)
end
section
open Go.RowKit
attribute [local go_sem] Go.World.cell?_alloc_some se
theorem Eb{B:Nat}{W w:World}{b r U:Nat}{who:Nat->Role}{n:Int}{f:Nat->Value}{K:Nat->List (Value × Int)}{x1 d z1 r1:Option Addr}{m q x3 l H r3:Nat}{L G:List Value}
  (HZ:Hid (Hz B w b who n f K)) (HW:Hid (W.grownBy w none)) (ak:W.heap.size<=B) (HX:Hid (w.ownsRow B 76 2 (.slice x1 m x3) m L)) (HY:Hid (w.ownsRow B 28 4 (.slice d q l) q G))
  (bW:Hid (∀ g,(Value.slice x1 m x3).ownBlock=some g->who g= .other)) (bp:Hid (∀ g,(Value.slice d q l).ownBlock=some g->who g= .other)) (ax:Hid (SamS w x1 z1 m)) (d4:Hid (SamR w d r1 q))
  (ah:Hid (w.cell? ⟨r,3,none⟩=some (.slice x1 m x3))) (bN:Hid (w.cell? ⟨r,8,none⟩=some (.slice d q l))) (db:Hid (w.cell? ⟨U,3,none⟩=some (.slice z1 m H))) (ds:Hid (w.cell? ⟨U,8,none⟩=some (.slice r1 q r3)))
  (bz:Hid (who r= .other)) (fH:Hid ((Value.slice x1 m x3).ownBlock≠some r)) (hm:m<=500) (hq:q<=4) (cY:0<=n) (hn1:n<=9000000000000) (Y:Hid (∀ c,c<5->(K c).length<=4900000000000))
  {Q:Exit->Act->World->Prop} {c1 c2 c3 c4 c5 c6 c7 c9 bO eo bq dl ar dm dC bu cH bc cW cE dc cx fK fL aY dQ aE fn co bP ez eN bY b1 ew eL cV bt di ed fu dH cf fw b3 ba aG d2 dS dY cS eO au aB bU er dU dR ck dw cN cc dt bT de fo cq cj ft eM bg dy aU d8 fI b9 bG bo aZ ej cu bA cT eU cp fj eg cm bi cK cX dh bV ek c8 aP b2 cg ff cr dE aO eI aD aK aS be aL fx aQ av cZ aC aT ep fq d9 cO da ex a7 eV fm dN eK cw ei cJ cR eW bE bS df bx b0 dG eE:Value}
  (HQ:Hid (∀ {z0 z1 z2 H z4 z5 z7 z8 z9 ay du cC dM dx bD ee dp el fp bB cv fB eH fC d6 cG e0 bv bX aW ca bh eG bI eA a0 cQ dW en cd fb ch aJ e9 bM bJ d1 bl cD fh dZ aH eX b4 ct dk dF d3 b5 fF ce eb fJ dT dV fl cA eS fa d7 d0 b6 ea aR cP dO fk fv dK a8 a1 et cI fy dz eP aX dj cb bb aI cl eu fi eQ fe fE aN dB bC cn bk dA ci cy eC d5 cM a4 dL bF a6 bK bL cB dn eq cL dq dP ev eJ fd eY ey aw eD em dI fG bQ es fz bR fg eZ dv fA cF dg:Value} (w':World),(∃ who' f' K',Hz B w' b who' (n+2) f' K'/\W.grownBy w' none/\(∀ c,c<5->(K' c).length<=(K c).length+4)/\Fr w w' who who' (fun g=>(Value.slice x1 m x3).ownBlock=some g\/(Value.slice d q l).ownBlock=some g))->Q .ret ⟨#[z0,z1,z2,H,z4,z5,.bool true,z7,z8,z9,ay,du,cC,dM,dx,bD,ee,dp,el,fp,bB,cv,fB,eH,fC,d6,cG,e0,bv,bX,aW,ca,bh,eG,bI,eA,a0,cQ,dW,en,cd,fb,ch,aJ,e9,bM,bJ,d1,bl,cD,fh,dZ,aH,eX,b4,ct,dk,dF,d3,b5,fF,ce,eb,fJ,dT,dV,fl,cA,eS,fa,d7,d0,b6,ea,aR,cP,dO,fk,fv,dK,a8,a1,et,cI,fy,dz,eP,aX,dj,cb,bb,aI,cl,eu,fi,eQ,fe,fE,aN,dB,bC,cn,bk,dA,ci,cy,eC,d5,cM,a4,dL,bF,a6,bK,bL,cB,dn,eq,cL,dq,dP,ev,eJ,fd,eY,ey,aw,eD,em,dI,fG,bQ,es,fz,bR,fg,eZ,dv,fA,cF,dg],[]⟩ w')):
  Code.wp Tryz.prog (oO Tryz.f6 6) Q ⟨#[.pointer (some ⟨b,0,none⟩),c1,c2,c3,c4,c5,c6,c7,.pointer (some ⟨r,0,none⟩),c9,bO,.pointer (some ⟨U,0,none⟩),eo,.bool true,bq,dl,ar,dm,dC,bu,cH,bc,cW,cE,dc,cx,fK,fL,aY,dQ,aE,fn,co,bP,ez,eN,bY,b1,ew,eL,cV,bt,di,ed,fu,dH,cf,fw,b3,ba,aG,d2,dS,dY,cS,eO,au,aB,bU,er,dU,dR,ck,dw,cN,cc,dt,bT,de,fo,cq,cj,ft,eM,bg,dy,aU,d8,fI,b9,bG,bo,aZ,ej,cu,bA,cT,eU,cp,fj,eg,cm,bi,cK,cX,dh,bV,ek,c8,aP,b2,cg,ff,cr,dE,aO,eI,aD,aK,aS,be,aL,fx,aQ,av,cZ,aC,aT,ep,fq,d9,cO,da,ex,a7,eV,fm,dN,eK,cw,ei,cJ,cR,eW,bE,bS,df,bx,b0,dG,eE],[]⟩ w:=by
 conv=>arg 2;whnf
 have qm:(m:Int)<=500:=by omega
 have qq:(q:Int)<=4:=by omega
 go_wp2_with fail
 go_loopw [13,14] (fun ov iv w'=>∃ i:Nat,i<=m/\ov= .bool true/\iv= .int .i64 i/\Hid (ju w' w)) (fun _ iv _=>m - (intOf iv).toNat)
 case atStart=>exact⟨0,Nat.zero_le _,rfl,rfl,il (jr _)⟩
 case round=>
  obtain⟨i,hi,rfl,rfl,p⟩:=hrel;obtain⟨M,ag⟩:∃ M,M=wr:=⟨_,rfl⟩;rw [<-ag]at p ⊢;clear ag;have a:Hid (w.grownBy M none):=iL p.out;have T:=iq a.out _ _ ah.out;by_cases bw:i<m
  ·have t0:(0:Int)<=(i:Int):=by omega
   have t1:(i:Int)<m:=by omega
   obtain⟨g,g',A,D,rfl,rfl,e1,O,e3,e4⟩:=ax.out.pres (iq a.out) i bw;have k4:=iq a.out _ _ db.out;go_wp2_with fail
   go_quiet (fail)
   go_wp2_with fail
   go_roundw
   case rel=>exact⟨i+1,by omega,by simp,by go_num,il (jW p.out _)⟩
   case measure=>simp [intOf];omega
  ·have t1:(m:Int)<=(i:Int):=by omega
   go_wp2_with fail
   go_loopw [13,15] (fun ov iv w'=>∃ i:Nat,i<=q/\ov= .bool true/\iv= .int .i64 i/\Hid (ju w' w)) (fun _ iv _=>q - (intOf iv).toNat)
   case atStart=>exact⟨0,Nat.zero_le _,rfl,rfl,p⟩
   case round=>
    clear T a p;obtain⟨j,hj,rfl,rfl,p⟩:=hrel;obtain⟨o,aq⟩:∃ o,o=wr:=⟨_,rfl⟩;rw [<-aq]at p ⊢;clear aq;have a:Hid (w.grownBy o none):=iL p.out;have z:=iq a.out _ _ bN.out;by_cases b7:j<q
    ·have t2:(0:Int)<=(j:Int):=by omega
     have t3:(j:Int)<q:=by omega
     obtain⟨g,g',A,D,E,F,rfl,rfl,e1,O,e3,e4,e5,e6,e7,e8⟩:=d4.out.pres (iq a.out) j b7;have k9:=iq a.out _ _ ds.out;go_wp2_with fail
     go_quiet (fail)
     go_wp2_with fail
     go_roundw
     case rel=>exact⟨j+1,by omega,by simp,by go_num,il (jW p.out _)⟩
     case measure=>simp [intOf];omega
    ·have t3:(q:Int)<=(j:Int):=by omega
     have T:=iq a.out _ _ ah.out;have V:pt b= .pointer (some ⟨b,0,none⟩):=rfl;have aa:=il (wC B o b who n f K (.slice x1 m x3) m L (HZ.out.1.grown a.out) (iE HX.out a.out (fun _ e=>by cases e)) bW.out cY (by omega) (by have:=Y.out 1 (by omega);omega) (by omega));rw [V]at aa;have v:Hid (o.ownsRow B 28 4 (.slice d q l) q G):=iE HY.out a.out (fun _ e=>by cases e);have aj:Hid (o.ownsRow B 76 2 (.slice x1 m x3) m L):=iE HX.out a.out (fun _ e=>by cases e);have a2:Hid (W.grownBy o none):=ip HW.out a.out;have P:=il z;go_wp2_with fail
     refine aa.out.mono ?_;clear aa T z;rintro e t ⟨⟨rv,rfl⟩,y,f3,J,ac,s⟩;have an:r<o.heap.size:=World.block_lt_of_cell? o _ P.out;have ap:=s.fr.oth r an bz.out (fun e=>fH.out e);have z:t.cell? ⟨r,8,none⟩=some (.slice d q l):=by rw [World.cell?_of_block ap.1];exact P.out
     have S:∀ g,(Value.slice d q l).ownBlock=some g->t.heap[g]?=o.heap[g]?/\y g= .other:=fun g e=>s.fr.oth g (i6 v.out g e) (bp.out g e) (fun O=>Ab aj.out v.out O e)
     have ef:Hid (t.ownsRow B 28 4 (.slice d q l) q G):=iN v.out (fun g e=>(S g e).1);have dX:Hid (∀ g,(Value.slice d q l).ownBlock=some g->y g= .other):=fun g e=>(S g e).2
     have aV:Hid (∀ g,(Value.slice x1 m x3).ownBlock=some g->W.heap.size<=g):=fun g e=>by have:=iB aj.out g e;omega
     have fs:Hid (∀ g,(Value.slice d q l).ownBlock=some g->W.heap.size<=g):=fun g e=>by have:=iB v.out g e;omega
     have dd:Hid (W.grownBy t none):=s.fr.base a2.out ak (fun g e=>(HZ.out.1.1.dom g e).1) aV.out;have fc:Hid (Fr w t who y (fun g=>(Value.slice x1 m x3).ownBlock=some g\/(Value.slice d q l).ownBlock=some g)):=(Fr.grown a.out).trans (s.fr.mono fun _ e=>Or.inl e);have bZ:Hid (∀ k,k<5->f3 k= .slice none 0 0):=fun k hk=>by rw [s.lent k hk];exact HZ.out.2 k hk
     have N:Hid (∀ c,c<5->(J c).length<=(K c).length+4/\(c≠1->(J c).length<=(K c).length)):=fun c hc=>by
      by_cases e:c=1
      ·subst e;have:=s.len;exact⟨by omega,fun h=>absurd rfl h⟩
      ·rw [s.oth c e];exact⟨by omega,fun _=>by omega⟩
     have R:=il (yB B t b y (n+1) f3 J (.slice d q l) q G ac ef.out dX.out (by omega) (by omega) (by have:=N.out 2 (by omega);have:=Y.out 2 (by omega);omega) (by omega));rw [V]at R;have cz:=il ac;clear ac s S ap an P;go_wp2_with fail
     refine R.out.mono ?_;clear R z;rintro e x ⟨⟨rv',rfl⟩,Z,f4,K4,I,u⟩;have a3:Hid (W.grownBy x none):=u.fr.base dd.out ak (fun g e=>(cz.out.1.dom g e).1) fs.out;have aA:Hid (Fr w x who Z (fun g=>(Value.slice x1 m x3).ownBlock=some g\/(Value.slice d q l).ownBlock=some g)):=fc.out.trans (u.fr.mono fun _ e=>Or.inr e);have bn:Hid (∀ k,k<5->f4 k= .slice none 0 0):=fun k hk=>by rw [u.lent k hk];exact bZ.out k hk
     have ai:Hid (∀ c,c<5->(K4 c).length<=(K c).length+4):=fun c hc=>by
      by_cases e:c=2
      ·subst e;have:=u.len;have:=(N.out 2 (by omega)).2 (by omega);omega
      ·rw [u.oth c e];exact(N.out c hc).1
     have C:=il (qw B x b Z (n+1+1) f4 K4 I (fun c hc=>by have:=ai.out c hc;have:=Y.out c hc;omega));rw [V]at C;have eB:=il I;clear I u;go_wp2_with fail
     refine C.out.mono ?_;clear C;rintro e w5 ⟨rfl,ao⟩;have X:Hid (x.grownBy w5 none):=iL ao;clear ao;go_wp2_with fail
     exact HQ.out w5 ⟨Z,f4,K4,⟨by have:=eB.out.grown X.out;rw [show n+1+1=n+2 by omega]at this;exact this,bn.out⟩,ip a3.out X.out,ai.out,aA.out.stepG X.out⟩
end
end Go.Proofs.YtklenjmfalljgabGreatDoor
