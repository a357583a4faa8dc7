/- The texts Hgv Hgd1 Hgd2 Hgs Hgr. -/
import Derived.Test.YtklenjmfalljgabGreatDoorM02
import Derived.Test.YtklenjmfalljgabGreatDoorM06
import Derived.Test.YtklenjmfalljgabGreatDoorM07
import Derived.Test.YtklenjmfalljgabGreatDoorM08
import Derived.Test.YtklenjmfalljgabGreatDoorM10
namespace Go.Proofs.YtklenjmfalljgabGreatDoor
set_option maxRecDepth 100000
set_option maxHeartbeats 8000000
section
open Go.RowKit
theorem kg{B:Nat}{W w:World}{b:Nat}{who:Nat->Role}{n:Int}{f:Nat->Value}{K:Nat->List (Value × Int)}{sv:Value}{s:List Int}(j:HsK B w b who n f K)(hWB:W.heap.size<=B)(k:IntsAt W.heap.size W sv s):valOther who sv:=by
 intro g o l c e hl;obtain⟨ao,cap,rfl,_,h⟩:=k;simp only [Value.slice.injEq]at e;obtain⟨i,e2,_⟩:=e;obtain⟨g',o',a,e4,_⟩:=h 0 (by omega);rw [i]at a;simp only [Option.some.injEq,Addr.mk.injEq,and_true]at a;by_cases d:who g= .other
 ·exact d
 ·have:=(j.1.dom g d).1;omega
def HzG(W:World)(B b:Nat)(n:Int)(K:Nat->List (Value × Int))(e:Ending)(w':World):Prop:=
 e= .returned (.bool true)/\∃ who' f' K',Hz B w' b who' n f' K'/\W.grownBy w' none/\∀ c,c<5->(K' c).length<=(K c).length+4
theorem Fr.step0{w w1 w2:World}{who who1 who2:Nat->Role}{ex:Nat->Prop}(h:Fr w w1 who who1 ex)(hf:Fr w1 w2 who1 who2 (fun _=>False)):Fr w w2 who who2 ex:=h.trans (hf.mono fun _ e=>e.elim)
theorem Fr.stepG{w w1 w2:World}{who who1:Nat->Role}{ex:Nat->Prop}(h:Fr w w1 who who1 ex)(hg:w1.grownBy w2 none):Fr w w2 who who1 ex:=h.trans (Fr.grown hg)
def HzF(W:World)(B b:Nat)(n:Int)(K:Nat->List (Value × Int))(w:World)(who:Nat->Role)(e:Ending)(w':World):Prop:=
 e= .returned (.bool true)/\∃ who' f' K',Hz B w' b who' n f' K'/\W.grownBy w' none/\(∀ c,c<5->(K' c).length<=(K c).length+4)/\Fr w w' who who' (fun g=>w.heap.size<=g)
theorem HzF.g{W w:World}{B b:Nat}{n:Int}{K:Nat->List (Value × Int)}{who:Nat->Role}{e:Ending}{w':World}(h:HzF W B b n K w who e w'):HzG W B b n K e w':=by
 obtain⟨d,k,c,a,f,i,j,_⟩:=h;exact⟨d,k,c,a,f,i,j⟩
def HzE(W:World)(B b:Nat)(n:Int)(K:Nat->List (Value × Int))(w:World)(who:Nat->Role)(e:Ending)(w':World):Prop:=
 e= .returned (.bool true)/\∃ who' f',Hz B w' b who' n f' K/\W.grownBy w' none/\Fr w w' who who' (fun g=>w.heap.size<=g)
theorem HzE.g{W w:World}{B b:Nat}{n:Int}{K:Nat->List (Value × Int)}{who:Nat->Role}{e:Ending}{w':World}(h:HzE W B b n K w who e w'):HzG W B b n K e w':=by
 obtain⟨d,j,a,f,i,_⟩:=h;exact⟨d,j,a,K,f,i,fun c _=>Nat.le_add_right _ _⟩
end
section
open Go.RowKit
attribute [local go_sem] Go.World.cell?_alloc_some
theorem yf:((Tryz.prog.info? 76).map fun i=>(i.zero,i.size,i.bytes))=some (some (.agg #[.int .i64 0,.int .i64 0]),2,16):=by kernel_rfl
theorem yj:((Tryz.prog.info? 27).map fun i=>(i.zero,i.size,i.bytes))=some (some (.slice none 0 0),1,24):=by kernel_rfl
theorem A1(m:Int)(xs:List Value)(k len:Nat)(hx:xs.length=len*2)(hk:k<len):((((List.replicate k (elC m 1)).flatten++xs.drop (k*2)).set (k*2) (.int .i64 m)).set (k*2+1) (.int .i64 0))=(List.replicate (k+1) (elC m 1)).flatten++xs.drop ((k+1)*2):=by
 obtain⟨c,e⟩:∃ c,c=(List.replicate k (elC m 1)).flatten:=⟨_,rfl⟩;have h:c.length=k*2:=by rw [e];exact jW _ _
 rw [<-jw,<-e];have d:2<=(xs.drop (k*2)).length:=by rw [List.length_drop];omega
 have f:xs.drop ((k+1)*2)=(xs.drop (k*2)).drop 2:=by rw [List.drop_drop];congr 1<;>omega
 rw [f];generalize xs.drop (k*2)=zs at d;obtain⟨b,z1,a,rfl⟩:∃ b z1 a,zs=b::z1::a:=by
  match zs,d with
  | b::z1::a,_=>exact⟨b,z1,a,rfl⟩
 rw [<-h];simp [elC]
theorem sA(B:Nat)(w:World)(b:Nat)(who:Nat->Role)(n:Int)(f:Nat->Value)(K:Nat->List (Value × Int))(F:Value)(len:Nat)(xs:List Value)(r:HsK B w b who n f K)(z:w.ownsRow B 76 2 F len xs)(E:∀ g,F.ownBlock=some g->who g= .other)
  (bb:0<=n) (hn1:n<=10000000000000) (hK:(K 1).length<=5000000000000) (ha:len<=900):
  Calls Tryz.prog 25 #[pt b,F] w fun e w'=>(∃ v,e= .returned v)/\∃ who' f' K',HsK B w' b who' (n+1) f' K'/\After 1 w w' who who' f f' K K' (fun g=>F.ownBlock=some g):=by
 obtain⟨i0,a2,bj,bk,bl⟩:=info_parts yf;obtain⟨i1,a3,bg,bh,bi⟩:=info_parts yj;obtain⟨i2,a4,be,bf,aa⟩:=info_parts ji;have aC:=z.1;obtain⟨x1,x2,x3,rfl⟩:=iw z;have aa:=(iB z).symm;subst aa;have HM:=ij (oO r.1 bb (by omega));have HO:=ij E;have H0:Hid (WrG B 1 w (w.setCell ⟨b,5,none⟩ (.int .i64 (n+1))) b who (n+1) f (setF f 5 (.int .i64 (n+1))) K (.slice x1 len x3) len xs (-77000000 - (n+1)) 0):=by
  refine⟨⟨r.1.setCnt _,r.2⟩,?_,?_,fun o E=>iN _ _ (by omega)⟩
  ·have a1:(Value.slice x1 len x3).ownBlock≠some b:=fun e=>by have:=E b e;rw [r.1.wb]at this;cases this
   have h5:=ownsRow_setCell_other (a:=⟨b,5,none⟩) z a1 (.int .i64 (n+1));have e5:(List.replicate 0 (elC (-77000000 - (n+1)) 1)).flatten++xs.drop (0*(elC (-77000000 - (n+1)) 1).length)=xs:=by simp
   rw [e5];exact h5
  ·exact Fr.set (Or.inl (by rw [r.1.wb];simp))
 have az:pt b= .pointer (some ⟨b,0,none⟩):=rfl;rw [az]at*;clear r z E az;generalize hm: -77000000 - (n+1)=m at*;have HMM:=ij hm;clear hm;go_enter Tryz.func25,Tryz.ntmps25
 go_wp2_with (go_at_call 55;refine HM.out.mono ?_;rintro e w1 ⟨rfl,rfl⟩)
 go_loopw [5] (fun i w'=>∃ k:Nat,k<=len/\i= .int .i64 k/\Hid (WrG B 1 w w' b who (n+1) f (setF f 5 (.int .i64 (n+1))) K (.slice x1 len x3) len xs m k)) (fun i _=>len - (intOf i).toNat)
 case atStart=>exact⟨0,Nat.zero_le _,rfl,H0⟩
 case round=>
  clear H0 HM;obtain⟨k,W,rfl,q⟩:=hrel;obtain⟨h,aA⟩:∃ h,h=wr:=⟨_,rfl⟩;rw [<-aA]at q ⊢;clear aA;by_cases a6:k<len
  ·obtain⟨g,cp,P,_,_⟩:=q.out.row.form (by omega);have p:h.ownsRow B 76 2 (.slice x1 len x3) len ((List.replicate k (elC m 1)).flatten++xs.drop (k*2)):=q.out.row;rw [P]at p;simp only [Value.slice.injEq,true_and]at P;obtain⟨rfl,rfl⟩:=P;have V:=HO.out g rfl;obtain⟨u0,y0⟩:∃ u,h.cell? ⟨g,k*2,none⟩=some u:=jJ p (by omega);have z0:h.frozen? ⟨g,k*2,none⟩=false:=jK p;obtain⟨u1,y1⟩:∃ u,h.cell? ⟨g,k*2+1,none⟩=some u:=jJ p (by omega);have z1:h.frozen? ⟨g,k*2+1,none⟩=false:=jK p;have aL:Hid (WrG B 1 w ((h.setCell ⟨g,k*2,none⟩ (.int .i64 m)).setCell ⟨g,k*2+1,none⟩ (.int .i64 0)) b who (n+1) f (setF f 5 (.int .i64 (n+1))) K (.slice (some ⟨g,0,none⟩) len x3) len xs m (k+1)):=by
    have Z:=q.out;refine⟨((Z.hs.setOther V).setOther V),?_,?_,Z.lent⟩
    ·have h9:=(iU (iU p (k*2) (.int .i64 m)) (k*2+1) (.int .i64 0));have Q:=A1 m xs k len aC a6;rw [Q]at h9;exact h9
    ·exact((Z.fr).trans (Fr.set (Or.inr rfl))).trans (Fr.set (Or.inr rfl))
   have q0:(0:Int)<=(k:Int):=by omega
   have q1:(k:Int)<len:=by omega
   clear p V;go_wp2_with fail
   go_roundw
   case rel=>exact⟨k+1,by omega,by go_num,aL⟩
   case measure=>simp [intOf];omega
  ·have ek:k=len:=by omega
   have q1:(len:Int)<=(k:Int):=by omega
   have HS:Hid (∃ ah,KpG B 1 w h b who ah (n+1) m f (setF f 5 (.int .i64 (n+1))) K K (.slice x1 len x3) len 0 (fun g=>(Value.slice x1 len x3).ownBlock=some g)):=by
    have hi:=q.out;rw [ek]at hi;exact hi.kp (by omega) aC (by omega) HO.out
   clear q ek;go_wp2_with fail
   go_loopw [1,6] (fun lv' i w'=>∃ (k:Nat) (who':Nat->Role) (f':Nat->Value) (K':Nat->List (Value × Int)),k<=4/\i= .int .i64 k/\Hid (KpG B 1 w w' b who who' (n+1) m f f' K K' lv' (len+k) k (fun g=>(Value.slice x1 len x3).ownBlock=some g))) (fun _ i _=>4 - (intOf i).toNat)
   case atStart=>
    obtain⟨ah,h1⟩:=HS.out;exact⟨0,ah,_,K,by omega,rfl,ij h1⟩
   case round=>
    clear HS;obtain⟨j,who',f',K',hj,rfl,d⟩:=hrel;obtain⟨c,aB⟩:∃ c,c=wr:=⟨_,rfl⟩;rw [<-aB]at d ⊢;clear aB;have C:c.ownsRow B 27 1 (f' 8) (K' 1).length ((K' 1).map (·.1)):=d.out.hs.lst 1 (by omega);have rM:c.ownsRow B 3 1 (f' 9) (K' 1).length (ints ((K' 1).map (·.2))):=by have:=d.out.hs.mrk 1 (by omega);simpa [marksOf]using this
    have I:c.ownsRow B 76 2 u1 (len+j) (List.replicate (len+j) (elC m 1)).flatten:=d.out.cu.row;have aK:Hid ((K' 1).length=(K 1).length+j):=d.out.len;have c6:c.cell? ⟨b,8,none⟩=some (f' 8):=d.out.hs.blk.cell (by omega);have hbase:B<=c.heap.size:=by have:=d.out.hs.blk.lt;have:=(d.out.hs.dom b (by rw [d.out.hs.wb];simp)).1;omega
    obtain⟨x,l2,y,rfl⟩:=iw I;have a5:=iB I;subst a5;obtain⟨o1,o2,o3,S⟩:=iw C;rw [S]at C c6;have bc:=iB C;subst bc;have a0:(K' 1).length<=5000000000003\/¬j<4:=by have:=aK.out;omega
    have aM:=ij I;have am:=ij C;have J:=ij S;have aO:=ij rM;clear I C rM S;by_cases hj4:j<4
    ·have a0:(K' 1).length<=5000000000003:=by omega
     have z2:(j:Int)<4:=by omega
     have ar:(K' 1).length+1<=maxLen:=by unfold maxLen;omega
     have aY:len+j+1<=maxLen:=by unfold maxLen;omega
     have O:Hid (∀ {o:Obj} {g6 c6:Nat} {w6:World},w6.ownsRow B 27 1 (.slice (some ⟨g6,0,none⟩) ((K' 1).length+1) c6) ((K' 1).length+1) ((K' 1).map (·.1)++[.slice x (len+j) y])->
       (((Value.slice o1 (K' 1).length o3).ownBlock=some g6/\(c.alloc o).grownBy w6 (some g6))\/(g6=c.heap.size+1/\(c.alloc o).grownBy w6 none))->
       HB w6 b f'/\∃ who'' f'',KpA B 1 w (w6.setCell ⟨b,8,none⟩ (.slice (some ⟨g6,0,none⟩) ((K' 1).length+1) c6)) b who who'' (n+1) m f f'' K K' (.slice x (len+j) y) (len+j) j (fun g=>(Value.slice x1 len x3).ownBlock=some g)/\f'' 9=f' 9):=by
      intro o g6 c6 w6 bd key;rw [<-J.out]at key;exact d.out.push (by omega) bd key
     generalize av:(K' 1).length=N at*;generalize aZ:(K' 1).map (·.1)=L1 at*;have M:=ij av;clear av aZ;go_upto_region 9 with (at_builtin;go_must (refine iE rfl _ _ _ rfl B 27 i1 _ 1 24 Tryz.underlying42 a3 bg bh bi rfl (by omega) (.slice o1 N o3) N L1 rfl (iG am.out) ⟨c.heap.size,0,none⟩ 1 1 [.slice x (len+j) y] rfl rfl (World.news_of_block (cs:= #[.slice x (len+j) y]) (t:=27) (fr:=(0,0)) (heap_alloc_new c _)) (by simp [Value.oneCell']) (by omega) ar (by omega) (by simp;omega) (c.heap.size+1) (by simp) ?_);intro g8 aQ w8 Y ac a9;have U:=(O.out Y ac).1;have p6:w8.cell? ⟨b,8,none⟩=some (.slice o1 N o3):=(by rw [U.cell (by omega),J.out]);have p7:=U.frozen 8)
     obtain⟨_,who9,f9,l,Q⟩:=O.out Y ac;generalize w8.setCell ⟨b,8,none⟩ (.slice (some ⟨g8,0,none⟩) (N+1) aQ)=w9 at*;have L:=ij l;have A:w9.ownsRow B 3 1 (f9 9) N (ints ((K' 1).map (·.2))):=by
      have:=l.hs.mrk 1 (by omega);rw [<-M.out];simpa [marksOf]using this
     have c7:w9.cell? ⟨b,9,none⟩=some (f9 9):=l.hs.blk.cell (by omega);obtain⟨G,m2,H,R⟩:=iw A;rw [R]at A c7;have ba:=(iB A).symm;subst ba;have hbase9:B<=w9.heap.size:=by have:=l.hs.blk.lt;have:=(l.hs.dom b (by rw [l.hs.wb];simp)).1;omega
     have al:=ij A;have D:=ij R;clear Y ac U p6 p7 a9 c6 l Q O A R J am aO;go_upto_region 10 with (at_builtin;go_must (refine iE rfl _ _ _ rfl B 3 i2 _ 1 8 Tryz.underlying39 a4 be bf aa rfl (by omega) (.slice G N H) N (ints ((K' 1).map (·.2))) rfl (iG al.out) ⟨w9.heap.size,0,none⟩ 1 1 [.int .i64 m] rfl rfl (World.news_of_block (cs:= #[.int .i64 m]) (t:=3) (fr:=(0,0)) (heap_alloc_new w9 _)) (by simp [Value.oneCell']) (by omega) ar (by omega) (by simp;omega) (w9.heap.size+1) (by simp) ?_);intro aT aP aF X ab a7;have T:=(L.out.tell (by omega) (M1:=G) (M3:=H) D.out M.out X ab).1;have p6:aF.cell? ⟨b,9,none⟩=some (.slice G N H):=(by rw [T.cell (by omega),D.out]);have p7:=T.frozen 9)
     obtain⟨_,who11,f11,s⟩:=L.out.tell (by omega) (M1:=G) (M3:=H) D.out M.out X ab;generalize aF.setCell ⟨b,9,none⟩ (.slice (some ⟨aT,0,none⟩) (N+1) aP)=w11 at*;have aI:=ij s;have aN:Hid (w11.ownsRow B 76 2 (.slice x (len+j) y) (len+j) (List.replicate (len+j) (elC m 1)).flatten):=s.cu.row;have hbase11:B<=w11.heap.size:=by have:=s.hs.blk.lt;have:=(s.hs.dom b (by rw [s.hs.wb];simp)).1;omega
     clear X ab T p6 p7 a7 c7 s L al D aM;go_wp2_with (at_builtin;go_must (refine iE rfl _ _ _ rfl B 76 i0 _ 2 16 Tryz.underlying27 a2 bj bk bl rfl (by omega) (.slice x (len+j) y) (len+j) (List.replicate (len+j) (elC m 1)).flatten rfl (iG aN.out) ⟨w11.heap.size,0,none⟩ 1 1 [.int .i64 m,.int .i64 0] rfl rfl (World.news_of_block (cs:= #[.int .i64 m,.int .i64 0]) (t:=76) (fr:=(0,0)) (heap_alloc_new w11 _)) (by simp [Value.oneCell']) (by omega) aY (by omega) (by simp;omega) (w11.heap.size+1) (by simp) ?_);intro g12 cap12 w12 ay aD a8;have aJ:=ij (aI.out.grow (by omega) (by omega) ay aD);clear ay aD a8)
     go_roundw
     case rel=>
      obtain⟨br,aW⟩:=aJ.out;exact⟨j+1,br,_,_,by omega,by go_num,ij aW⟩
     case measure=>simp [intOf];omega
    ·have z2:(4:Int)<=(j:Int):=by omega
     have HE:Hid (∃ who' f' K',HsK B c b who' (n+1) f' K'/\After 1 w c who who' f f' K K' (fun g=>(Value.slice x1 len x3).ownBlock=some g)):=by
      have ej:j=4:=by omega
      have W:=d.out;rw [ej]at W;exact W.done
     go_wp2_with fail
     go_end0
     exact⟨⟨_,rfl⟩,HE.out⟩
theorem yh:((Tryz.prog.info? 28).map fun i=>(i.zero,i.size,i.bytes))=some (some (.agg #[.int .i64 0,.int .i64 0,.int .i64 0,.int .i64 0]),4,32):=by kernel_rfl
theorem yk:((Tryz.prog.info? 29).map fun i=>(i.zero,i.size,i.bytes))=some (some (.slice none 0 0),1,24):=by kernel_rfl
theorem A2(m:Int)(xs:List Value)(k len:Nat)(hx:xs.length=len*4)(hk:k<len):((((((List.replicate k (elC m 2)).flatten++xs.drop (k*4)).set (k*4) (.int .i64 m)).set (k*4+1) (.int .i64 1)).set (k*4+2) (.int .i64 2)).set (k*4+3) (.int .i64 3))=(List.replicate (k+1) (elC m 2)).flatten++xs.drop ((k+1)*4):=by
 obtain⟨e,h⟩:∃ e,e=(List.replicate k (elC m 2)).flatten:=⟨_,rfl⟩;have j:e.length=k*4:=by rw [h];exact jW _ _
 rw [<-jw,<-h];have f:4<=(xs.drop (k*4)).length:=by rw [List.length_drop];omega
 have i:xs.drop ((k+1)*4)=(xs.drop (k*4)).drop 4:=by rw [List.drop_drop];congr 1<;>omega
 rw [i];generalize xs.drop (k*4)=zs at f;obtain⟨b,z1,c,d,a,rfl⟩:∃ b z1 c d a,zs=b::z1::c::d::a:=by
  match zs,f with
  | b::z1::c::d::a,_=>exact⟨b,z1,c,d,a,rfl⟩
 rw [<-j];simp [elC]
theorem tZ(B:Nat)(w:World)(b:Nat)(who:Nat->Role)(n:Int)(f:Nat->Value)(K:Nat->List (Value × Int))(G:Value)(len:Nat)(xs:List Value)(r:HsK B w b who n f K)(A:w.ownsRow B 28 4 G len xs)(F:∀ g,G.ownBlock=some g->who g= .other)
  (bc:0<=n) (hn1:n<=10000000000000) (hK:(K 2).length<=5000000000000) (ha:len<=900):
  Calls Tryz.prog 26 #[pt b,G] w fun e w'=>(∃ v,e= .returned v)/\∃ who' f' K',HsK B w' b who' (n+1) f' K'/\After 2 w w' who who' f f' K K' (fun g=>G.ownBlock=some g):=by
 obtain⟨i0,a3,bk,bl,bm⟩:=info_parts yh;obtain⟨i1,a4,bh,bi,bj⟩:=info_parts yk;obtain⟨i2,a5,bf,bg,aa⟩:=info_parts ji;have aC:=A.1;obtain⟨x1,x2,x3,rfl⟩:=iw A;have aa:=(iB A).symm;subst aa;have HM:=ij (oO r.1 bc (by omega));have HO:=ij F;have H0:Hid (WrG B 2 w (w.setCell ⟨b,5,none⟩ (.int .i64 (n+1))) b who (n+1) f (setF f 5 (.int .i64 (n+1))) K (.slice x1 len x3) len xs (-77000000 - (n+1)) 0):=by
  refine⟨⟨r.1.setCnt _,r.2⟩,?_,?_,fun o F=>iN _ _ (by omega)⟩
  ·have a2:(Value.slice x1 len x3).ownBlock≠some b:=fun e=>by have:=F b e;rw [r.1.wb]at this;cases this
   have h5:=ownsRow_setCell_other (a:=⟨b,5,none⟩) A a2 (.int .i64 (n+1));have e5:(List.replicate 0 (elC (-77000000 - (n+1)) 2)).flatten++xs.drop (0*(elC (-77000000 - (n+1)) 2).length)=xs:=by simp
   rw [e5];exact h5
  ·exact Fr.set (Or.inl (by rw [r.1.wb];simp))
 have az:pt b= .pointer (some ⟨b,0,none⟩):=rfl;rw [az]at*;clear r A F az;generalize hm: -77000000 - (n+1)=m at*;have HMM:=ij hm;clear hm;go_enter Tryz.func26,Tryz.ntmps26
 go_wp2_with (go_at_call 55;refine HM.out.mono ?_;rintro e w1 ⟨rfl,rfl⟩)
 go_loopw [5] (fun i w'=>∃ k:Nat,k<=len/\i= .int .i64 k/\Hid (WrG B 2 w w' b who (n+1) f (setF f 5 (.int .i64 (n+1))) K (.slice x1 len x3) len xs m k)) (fun i _=>len - (intOf i).toNat)
 case atStart=>exact⟨0,Nat.zero_le _,rfl,H0⟩
 case round=>
  clear H0 HM;obtain⟨k,W,rfl,q⟩:=hrel;obtain⟨d,aA⟩:∃ d,d=wr:=⟨_,rfl⟩;rw [<-aA]at q ⊢;clear aA;by_cases a7:k<len
  ·obtain⟨g,cp,Q,_,_⟩:=q.out.row.form (by omega);have l:d.ownsRow B 28 4 (.slice x1 len x3) len ((List.replicate k (elC m 2)).flatten++xs.drop (k*4)):=q.out.row;rw [Q]at l;simp only [Value.slice.injEq,true_and]at Q;obtain⟨rfl,rfl⟩:=Q;have z:=HO.out g rfl;obtain⟨u0,y0⟩:∃ u,d.cell? ⟨g,k*4,none⟩=some u:=jJ l (by omega);have z0:d.frozen? ⟨g,k*4,none⟩=false:=jK l;obtain⟨u1,y1⟩:∃ u,d.cell? ⟨g,k*4+1,none⟩=some u:=jJ l (by omega);have z1:d.frozen? ⟨g,k*4+1,none⟩=false:=jK l;obtain⟨u2,y2⟩:∃ u,d.cell? ⟨g,k*4+2,none⟩=some u:=jJ l (by omega);have z2:d.frozen? ⟨g,k*4+2,none⟩=false:=jK l;obtain⟨u3,y3⟩:∃ u,d.cell? ⟨g,k*4+3,none⟩=some u:=jJ l (by omega);have z3:d.frozen? ⟨g,k*4+3,none⟩=false:=jK l;have aM:Hid (WrG B 2 w ((((d.setCell ⟨g,k*4,none⟩ (.int .i64 m)).setCell ⟨g,k*4+1,none⟩ (.int .i64 1)).setCell ⟨g,k*4+2,none⟩ (.int .i64 2)).setCell ⟨g,k*4+3,none⟩ (.int .i64 3)) b who (n+1) f (setF f 5 (.int .i64 (n+1))) K (.slice (some ⟨g,0,none⟩) len x3) len xs m (k+1)):=by
    have Z:=q.out;refine⟨((((Z.hs.setOther z).setOther z).setOther z).setOther z),?_,?_,Z.lent⟩
    ·have h9:=(iU (iU (iU (iU l (k*4) (.int .i64 m)) (k*4+1) (.int .i64 1)) (k*4+2) (.int .i64 2)) (k*4+3) (.int .i64 3));have R:=A2 m xs k len aC a7;rw [R]at h9;exact h9
    ·exact((((Z.fr).trans (Fr.set (Or.inr rfl))).trans (Fr.set (Or.inr rfl))).trans (Fr.set (Or.inr rfl))).trans (Fr.set (Or.inr rfl))
   have q0:(0:Int)<=(k:Int):=by omega
   have q1:(k:Int)<len:=by omega
   clear l z;go_wp2_with fail
   go_roundw
   case rel=>exact⟨k+1,by omega,by go_num,aM⟩
   case measure=>simp [intOf];omega
  ·have ek:k=len:=by omega
   have q1:(len:Int)<=(k:Int):=by omega
   have HS:Hid (∃ ah,KpG B 2 w d b who ah (n+1) m f (setF f 5 (.int .i64 (n+1))) K K (.slice x1 len x3) len 0 (fun g=>(Value.slice x1 len x3).ownBlock=some g)):=by
    have hi:=q.out;rw [ek]at hi;exact hi.kp (by omega) aC (by omega) HO.out
   clear q ek;go_wp2_with fail
   go_loopw [1,6] (fun lv' i w'=>∃ (k:Nat) (who':Nat->Role) (f':Nat->Value) (K':Nat->List (Value × Int)),k<=4/\i= .int .i64 k/\Hid (KpG B 2 w w' b who who' (n+1) m f f' K K' lv' (len+k) k (fun g=>(Value.slice x1 len x3).ownBlock=some g))) (fun _ i _=>4 - (intOf i).toNat)
   case atStart=>
    obtain⟨ah,h1⟩:=HS.out;exact⟨0,ah,_,K,by omega,rfl,ij h1⟩
   case round=>
    clear HS;obtain⟨j,who',f',K',hj,rfl,h⟩:=hrel;obtain⟨c,aB⟩:∃ c,c=wr:=⟨_,rfl⟩;rw [<-aB]at h ⊢;clear aB;have D:c.ownsRow B 29 1 (f' 10) (K' 2).length ((K' 2).map (·.1)):=h.out.hs.lst 2 (by omega);have rM:c.ownsRow B 3 1 (f' 11) (K' 2).length (ints ((K' 2).map (·.2))):=by have:=h.out.hs.mrk 2 (by omega);simpa [marksOf]using this
    have J:c.ownsRow B 28 4 u1 (len+j) (List.replicate (len+j) (elC m 2)).flatten:=h.out.cu.row;have aL:Hid ((K' 2).length=(K 2).length+j):=h.out.len;have c6:c.cell? ⟨b,10,none⟩=some (f' 10):=h.out.hs.blk.cell (by omega);have hbase:B<=c.heap.size:=by have:=h.out.hs.blk.lt;have:=(h.out.hs.dom b (by rw [h.out.hs.wb];simp)).1;omega
    obtain⟨x,l2,y,rfl⟩:=iw J;have a6:=iB J;subst a6;obtain⟨o1,o2,o3,T⟩:=iw D;rw [T]at D c6;have bd:=iB D;subst bd;have a1:(K' 2).length<=5000000000003\/¬j<4:=by have:=aL.out;omega
    have aN:=ij J;have am:=ij D;have L:=ij T;have aP:=ij rM;clear J D rM T;by_cases hj4:j<4
    ·have a1:(K' 2).length<=5000000000003:=by omega
     have z2:(j:Int)<4:=by omega
     have ar:(K' 2).length+1<=maxLen:=by unfold maxLen;omega
     have aZ:len+j+1<=maxLen:=by unfold maxLen;omega
     have P:Hid (∀ {o:Obj} {g6 c6:Nat} {w6:World},w6.ownsRow B 29 1 (.slice (some ⟨g6,0,none⟩) ((K' 2).length+1) c6) ((K' 2).length+1) ((K' 2).map (·.1)++[.slice x (len+j) y])->
       (((Value.slice o1 (K' 2).length o3).ownBlock=some g6/\(c.alloc o).grownBy w6 (some g6))\/(g6=c.heap.size+1/\(c.alloc o).grownBy w6 none))->
       HB w6 b f'/\∃ who'' f'',KpA B 2 w (w6.setCell ⟨b,10,none⟩ (.slice (some ⟨g6,0,none⟩) ((K' 2).length+1) c6)) b who who'' (n+1) m f f'' K K' (.slice x (len+j) y) (len+j) j (fun g=>(Value.slice x1 len x3).ownBlock=some g)/\f'' 11=f' 11):=by
      intro o g6 c6 w6 be key;rw [<-L.out]at key;exact h.out.push (by omega) be key
     generalize av:(K' 2).length=N at*;generalize a0:(K' 2).map (·.1)=L1 at*;have O:=ij av;clear av a0;go_upto_region 9 with (at_builtin;go_must (refine iE rfl _ _ _ rfl B 29 i1 _ 1 24 Tryz.underlying43 a4 bh bi bj rfl (by omega) (.slice o1 N o3) N L1 rfl (iG am.out) ⟨c.heap.size,0,none⟩ 1 1 [.slice x (len+j) y] rfl rfl (World.news_of_block (cs:= #[.slice x (len+j) y]) (t:=29) (fr:=(0,0)) (heap_alloc_new c _)) (by simp [Value.oneCell']) (by omega) ar (by omega) (by simp;omega) (c.heap.size+1) (by simp) ?_);intro g8 aR w8 Y ac ba;have V:=(P.out Y ac).1;have p6:w8.cell? ⟨b,10,none⟩=some (.slice o1 N o3):=(by rw [V.cell (by omega),L.out]);have p7:=V.frozen 10)
     obtain⟨_,who9,f9,p,R⟩:=P.out Y ac;generalize w8.setCell ⟨b,10,none⟩ (.slice (some ⟨g8,0,none⟩) (N+1) aR)=w9 at*;have M:=ij p;have C:w9.ownsRow B 3 1 (f9 11) N (ints ((K' 2).map (·.2))):=by
      have:=p.hs.mrk 2 (by omega);rw [<-O.out];simpa [marksOf]using this
     have c7:w9.cell? ⟨b,11,none⟩=some (f9 11):=p.hs.blk.cell (by omega);obtain⟨H,m2,I,S⟩:=iw C;rw [S]at C c7;have bb:=(iB C).symm;subst bb;have hbase9:B<=w9.heap.size:=by have:=p.hs.blk.lt;have:=(p.hs.dom b (by rw [p.hs.wb];simp)).1;omega
     have al:=ij C;have E:=ij S;clear Y ac V p6 p7 ba c6 p R P C S L am aP;go_upto_region 10 with (at_builtin;go_must (refine iE rfl _ _ _ rfl B 3 i2 _ 1 8 Tryz.underlying39 a5 bf bg aa rfl (by omega) (.slice H N I) N (ints ((K' 2).map (·.2))) rfl (iG al.out) ⟨w9.heap.size,0,none⟩ 1 1 [.int .i64 m] rfl rfl (World.news_of_block (cs:= #[.int .i64 m]) (t:=3) (fr:=(0,0)) (heap_alloc_new w9 _)) (by simp [Value.oneCell']) (by omega) ar (by omega) (by simp;omega) (w9.heap.size+1) (by simp) ?_);intro aU aQ aF X ab a8;have U:=(M.out.tell (by omega) (M1:=H) (M3:=I) E.out O.out X ab).1;have p6:aF.cell? ⟨b,11,none⟩=some (.slice H N I):=(by rw [U.cell (by omega),E.out]);have p7:=U.frozen 11)
     obtain⟨_,who11,f11,s⟩:=M.out.tell (by omega) (M1:=H) (M3:=I) E.out O.out X ab;generalize aF.setCell ⟨b,11,none⟩ (.slice (some ⟨aU,0,none⟩) (N+1) aQ)=w11 at*;have aJ:=ij s;have aO:Hid (w11.ownsRow B 28 4 (.slice x (len+j) y) (len+j) (List.replicate (len+j) (elC m 2)).flatten):=s.cu.row;have hbase11:B<=w11.heap.size:=by have:=s.hs.blk.lt;have:=(s.hs.dom b (by rw [s.hs.wb];simp)).1;omega
     clear X ab U p6 p7 a8 c7 s M al E aN;go_wp2_with (at_builtin;go_must (refine iE rfl _ _ _ rfl B 28 i0 _ 4 32 Tryz.underlying29 a3 bk bl bm rfl (by omega) (.slice x (len+j) y) (len+j) (List.replicate (len+j) (elC m 2)).flatten rfl (iG aO.out) ⟨w11.heap.size,0,none⟩ 1 1 [.int .i64 m,.int .i64 1,.int .i64 2,.int .i64 3] rfl rfl (World.news_of_block (cs:= #[.int .i64 m,.int .i64 1,.int .i64 2,.int .i64 3]) (t:=28) (fr:=(0,0)) (heap_alloc_new w11 _)) (by simp [Value.oneCell']) (by omega) aZ (by omega) (by simp;omega) (w11.heap.size+1) (by simp) ?_);intro g12 cap12 w12 ay aD a9;have aK:=ij (aJ.out.grow (by omega) (by omega) ay aD);clear ay aD a9)
     go_roundw
     case rel=>
      obtain⟨bt,aX⟩:=aK.out;exact⟨j+1,bt,_,_,by omega,by go_num,ij aX⟩
     case measure=>simp [intOf];omega
    ·have z2:(4:Int)<=(j:Int):=by omega
     have HE:Hid (∃ who' f' K',HsK B c b who' (n+1) f' K'/\After 2 w c who who' f f' K K' (fun g=>(Value.slice x1 len x3).ownBlock=some g)):=by
      have ej:j=4:=by omega
      have W:=h.out;rw [ej]at W;exact W.done
     go_wp2_with fail
     go_end0
     exact⟨⟨_,rfl⟩,HE.out⟩
end
section
open Go.RowKit
theorem pw{w w':World}(h:w.drew.grownBy w' none):w.grownBy w' none:=⟨h.os,h.tape,h.output,h.size,h.block⟩
def stpL(p:List (List Ins))(s:List Int):List (Int × Int):=if checkRunN p s=0 then (runS p s).steps else []
def rgsN(p:List (List Ins))(s:List Int):Nat:=if checkRunN p s=0 then p.length else 0
theorem nF{p:List (List Ins)}{s:List Int}(h:checkRunN p s=0):vProg p=true/\s.length<=500:=by
 unfold checkRunN at h;by_cases a:vProg p=true
 ·by_cases b:s.length<=500
  ·exact⟨a,b⟩
  ·simp [a,b]at h
 ·simp [a]at h
theorem A9(p:List (List Ins))(s:List Int):(stpL p s).length<=500:=by
 unfold stpL;by_cases h:checkRunN p s=0
 ·rw [if_pos h];obtain⟨m,h1,_,a,_⟩:=lf p s 0 St.zero [];have h5:=(nF h).2;unfold runS;simp at a;omega
 ·rw [if_neg h];simp
theorem AQ(p:List (List Ins))(s:List Int):rgsN p s<=4:=by
 unfold rgsN;by_cases h:checkRunN p s=0
 ·rw [if_pos h];exact(iW (nF h).1).2
 ·rw [if_neg h];omega
theorem ResV.rows{p:List (List Ins)}{s:List Int}{B:Nat}{w:World}{k t a l n o r c:Int}{x1 i:Option Addr}{m x3 q j:Nat}
  (h:ResV p s B w (.agg #[.int .i64 k,.int .i64 t,.int .i64 a,.slice x1 m x3,.int .i64 l,.int .i64 n,.int .i64 o,.int .i64 r,.slice i q j]) c):
  m=(stpL p s).length/\q=rgsN p s/\w.ownsRow B 76 2 (.slice x1 m x3) m (flatS (stpL p s))/\w.ownsRow B 28 4 (.slice i q j) q (regsF (rgsN p s) (runS p s).st):=by
 obtain⟨k',t',a',u0,u1,u2,u3,z1,z3,r1,r3,m',q',e,hc,h⟩:=h;simp only [Value.agg.injEq,Array.mk.injEq,List.cons.injEq,Value.int.injEq,Value.slice.injEq,true_and,and_true]at e;obtain⟨rfl,rfl,rfl,⟨rfl,rfl,rfl⟩,rfl,rfl,rfl,rfl,rfl,rfl,rfl⟩:=e;rcases h with ⟨h0,_,_,_,_,_,_,_,hm,hq,h1,h2⟩ | ⟨h0,_,_,_,_,_,_,_,hm,hq,e1,e3,f1,f3⟩
 ·have f:checkRunN p s=0:=by rw [<-hc,h0]
  have d:stpL p s=(runS p s).steps:=by unfold stpL;rw [if_pos f]
  have b:rgsN p s=p.length:=by unfold rgsN;rw [if_pos f]
  refine⟨by rw [d,hm],by rw [b,hq],?_,?_⟩
  ·rw [d];rw [<-hm]at h1;exact h1
  ·rw [b];rw [hq]at h2 ⊢;exact h2
 ·have f:checkRunN p s≠0:=by rw [<-hc];exact h0
  have d:stpL p s=[]:=by unfold stpL;rw [if_neg f]
  have b:rgsN p s=0:=by unfold rgsN;rw [if_neg f]
  subst hm hq e1 e3 f1 f3;exact⟨by rw [d];rfl,by rw [b],by rw [d];exact⟨rfl,Or.inl ⟨rfl,rfl⟩⟩,by rw [b];exact⟨rfl,Or.inl ⟨rfl,rfl⟩⟩⟩
theorem pX:∀ (l:List (Int × Int)) (j:Nat) (hj:j<l.length),(flatS l)[j*2]?=some (.int .i64 l[j].1)/\(flatS l)[j*2+1]?=some (.int .i64 l[j].2)
 | [],j,hj=>by simp at hj
 | x::l,0,hj=>by simp [flatS]
 | x::l,j+1,hj=>by
  have h:=pX l j (by simpa using hj);have e:flatS (x::l)=[.int .i64 x.1,.int .i64 x.2]++flatS l:=by simp [flatS]
  have e2:∀ q,(flatS (x::l))[(j+1)*2+q]?=(flatS l)[j*2+q]?:=fun q=>by
   rw [e,List.getElem?_append_right (by simp;omega)];congr 1
   simp;omega
  refine⟨?_,?_⟩
  ·have:=e2 0;simp only [Nat.add_zero]at this;rw [this];simpa using h.1
  ·rw [e2 1];simpa using h.2
theorem o8(s:St):∀ (n t:Nat),t<n->(regsF n s)[t*4]?=some (.int .i64 (s.regs t 0))/\(regsF n s)[t*4+1]?=some (.int .i64 (s.regs t 1))/\(regsF n s)[t*4+2]?=some (.int .i64 (s.regs t 2))/\(regsF n s)[t*4+3]?=some (.int .i64 (s.regs t 3))
 | 0,t,h=>by omega
 | n+1,t,h=>by
  have e:regsF (n+1) s=regsF n s++[.int .i64 (s.regs n 0),.int .i64 (s.regs n 1),.int .i64 (s.regs n 2),.int .i64 (s.regs n 3)]:=by
   unfold regsF;rw [List.range_succ,List.flatMap_append];simp
  have a:=jg n s;rw [e];by_cases i:t<n
  ·obtain⟨b,c,d,f⟩:=o8 s n t i;refine⟨?_,?_,?_,?_⟩
   ·rw [List.getElem?_append_left (by omega)];exact b
   ·rw [List.getElem?_append_left (by omega)];exact c
   ·rw [List.getElem?_append_left (by omega)];exact d
   ·rw [List.getElem?_append_left (by omega)];exact f
  ·have:t=n:=by omega
   subst this;refine⟨?_,?_,?_,?_⟩
   ·rw [List.getElem?_append_right (by omega),a,Nat.sub_self];rfl
   ·rw [List.getElem?_append_right (by omega),a,Nat.add_sub_cancel_left];rfl
   ·rw [List.getElem?_append_right (by omega),a,Nat.add_sub_cancel_left];rfl
   ·rw [List.getElem?_append_right (by omega),a,Nat.add_sub_cancel_left];rfl
theorem lV{w:World}{B:Nat}{e:TypeId}{z:Nat}{a:Option Addr}{m c n:Nat}{xs:List Value}(h:w.ownsRow B e z (.slice a m c) n xs)(hn:0<n):∃ g,a=some ⟨g,0,none⟩:=by
 rcases h.2 with ⟨_,e⟩ | ⟨g,cap,cur,hv,_⟩
 ·omega
 ·simp only [Value.slice.injEq]at hv;exact⟨g,hv.1⟩
def SamS(w:World)(x1 z1:Option Addr)(m:Nat):Prop:=∀ i,i<m->∃ g g' A D,x1=some ⟨g,0,none⟩/\z1=some ⟨g',0,none⟩/\w.cell? ⟨g,i*2,none⟩=some (.int .i64 A)/\w.cell? ⟨g,i*2+1,none⟩=some (.int .i64 D)/\w.cell? ⟨g',i*2,none⟩=some (.int .i64 A)/\w.cell? ⟨g',i*2+1,none⟩=some (.int .i64 D)
def SamR(w:World)(y1 r1:Option Addr)(q:Nat):Prop:=∀ i,i<q->∃ g g' A D E F,y1=some ⟨g,0,none⟩/\r1=some ⟨g',0,none⟩/\w.cell? ⟨g,i*4,none⟩=some (.int .i64 A)/\w.cell? ⟨g,i*4+1,none⟩=some (.int .i64 D)/\w.cell? ⟨g,i*4+2,none⟩=some (.int .i64 E)/\w.cell? ⟨g,i*4+3,none⟩=some (.int .i64 F)/\
 w.cell? ⟨g',i*4,none⟩=some (.int .i64 A)/\w.cell? ⟨g',i*4+1,none⟩=some (.int .i64 D)/\w.cell? ⟨g',i*4+2,none⟩=some (.int .i64 E)/\w.cell? ⟨g',i*4+3,none⟩=some (.int .i64 F)
theorem AW{w:World}{B e:Nat}{x1 z1:Option Addr}{m c f:Nat}{L:List (Int × Int)}(hm:m=L.length)(h:w.ownsRow B 76 2 (.slice x1 m c) m (flatS L))(a:w.ownsRow e 76 2 (.slice z1 m f) m (flatS L)):SamS w x1 z1 m:=by
 intro i hi;obtain⟨g,rfl⟩:=lV h (by omega);obtain⟨j,rfl⟩:=lV a (by omega);obtain⟨b,d⟩:=pX L i (by omega);exact⟨g,j,_,_,rfl,rfl,by rw [h.cellAt _ (by omega)];exact b,by rw [h.cellAt _ (by omega)];exact d,by rw [a.cellAt _ (by omega)];exact b,by rw [a.cellAt _ (by omega)];exact d⟩
theorem AV{w:World}{B m:Nat}{l k:Option Addr}{q c n:Nat}{b:St}(h:w.ownsRow B 28 4 (.slice l q c) q (regsF q b))(a:w.ownsRow m 28 4 (.slice k q n) q (regsF q b)):SamR w l k q:=by
 intro i p;obtain⟨g,rfl⟩:=lV h (by omega);obtain⟨o,rfl⟩:=lV a (by omega);obtain⟨d,e,f,j⟩:=o8 b q i p;exact⟨g,o,_,_,_,_,rfl,rfl,by rw [h.cellAt _ (by omega)];exact d,by rw [h.cellAt _ (by omega)];exact e,by rw [h.cellAt _ (by omega)];exact f,by rw [h.cellAt _ (by omega)];exact j,by rw [a.cellAt _ (by omega)];exact d,by rw [a.cellAt _ (by omega)];exact e,by rw [a.cellAt _ (by omega)];exact f,by rw [a.cellAt _ (by omega)];exact j⟩
theorem SamS.pres{w w':World}{x1 z1:Option Addr}{m:Nat}(h:SamS w x1 z1 m)(hp:Pres w w'):SamS w' x1 z1 m:=fun i hi=>by
 obtain⟨g,g',A,D,e1,e2,c1,c2,c3,c4⟩:=h i hi;exact⟨g,g',A,D,e1,e2,hp _ _ c1,hp _ _ c2,hp _ _ c3,hp _ _ c4⟩
theorem SamR.pres{w w':World}{x1 z1:Option Addr}{m:Nat}(h:SamR w x1 z1 m)(hp:Pres w w'):SamR w' x1 z1 m:=fun i hi=>by
 obtain⟨g,g',A,D,E,F,e1,e2,c1,c2,c3,c4,c5,c6,c7,c8⟩:=h i hi;exact⟨g,g',A,D,E,F,e1,e2,hp _ _ c1,hp _ _ c2,hp _ _ c3,hp _ _ c4,hp _ _ c5,hp _ _ c6,hp _ _ c7,hp _ _ c8⟩
theorem xf{w:World}{B c:Nat}{v b:Value}{m q:Nat}{xs f:List Value}(h:w.ownsRow B 76 2 v m xs)(d:w.ownsRow c 28 4 b q f){g:Nat}(e:v.ownBlock=some g)(a:b.ownBlock=some g):False:=by
 rcases h.2 with ⟨rfl,_⟩ | ⟨g1,cap1,cur1,rfl,_,hh,_⟩
 ·cases e
 ·rcases d.2 with ⟨rfl,_⟩ | ⟨g2,cap2,cur2,rfl,_,hh',_⟩
  ·cases a
  ·simp only [Value.ownBlock,Option.some.injEq]at e a;subst e a;rw [hh]at hh';simp only [Option.some.injEq,Obj.cells.injEq]at hh';exact absurd hh'.2.1 (by decide)
end
section
open Go.RowKit
attribute [local go_sem] Go.World.cell?_alloc_some nZ
theorem AP{B:Nat}{W w:World}{b s ab:Nat}{who:Nat->Role}{n:Int}{f:Nat->Value}{K:Nat->List (Value × Int)}{x1 d z1 r1:Option Addr}{m q x3 l z3 r3:Nat}{L G:List Value}
  (P:Hid (Hz B w b who n f K)) (HW:Hid (W.grownBy w none)) (ak:W.heap.size<=B) (HX:Hid (w.ownsRow B 76 2 (.slice x1 m x3) m L)) (HY:Hid (w.ownsRow B 28 4 (.slice d q l) q G))
  (aC:Hid (∀ g,(Value.slice x1 m x3).ownBlock=some g->who g= .other)) (aD:Hid (∀ g,(Value.slice d q l).ownBlock=some g->who g= .other)) (aJ:Hid (SamS w x1 z1 m)) (aI:Hid (SamR w d r1 q))
  (af:Hid (w.cell? ⟨s,3,none⟩=some (.slice x1 m x3))) (av:Hid (w.cell? ⟨s,8,none⟩=some (.slice d q l))) (ar:Hid (w.cell? ⟨ab,3,none⟩=some (.slice z1 m z3))) (au:Hid (w.cell? ⟨ab,8,none⟩=some (.slice r1 q r3)))
  (aA:Hid (who s= .other)) (aB:Hid ((Value.slice x1 m x3).ownBlock≠some s)) (hm:m<=500) (hq:q<=4) (dk:0<=n) (hn1:n<=9000000000000) (J:Hid (∀ c,c<5->(K c).length<=4900000000000))
  {Q:Exit->Act->World->Prop} {c1 c2 c3 c4 c5 c6 c7 c9 aS bd bA bC bD bE bF bG bI bJ bK bL bM bN bO bP bQ bR bT bU bV bW bX bY bZ b0 b1 b2 b4 b5 b6 b7 b8 b9 ca cb cc cd cf cg ch ci cj ck cl cm cn co cp cq cr cs ct cu cv cw cx cy cA cB cC cD cE cF cG cH cI cJ cK cL cM cN cO cP cQ cR cS cT cV cW cX cY cZ c8 da db dc dd aT aU aV aW aX aY aZ a0 a1 a2 a3 a4 a5 a6 a7 a8 a9 ba bb bc be bf bg bh bi bj bk bl bm bn bo bp bq br bt bu bv bw bx bz bB:Value}
  (HQ:Hid (∀ {z0 z1 z2 z3 z4 z5 z7 z8 z9 dq dB dM dX d8 ea eb ec ed ee eg eh ei ej ek el em en eo ep eq er es et eu ev ew ex ey ez eB eC eD eE eF eG eH eI eJ eK eM eN eO eP eQ eR eS eT eU eV eW eX eY eZ e0 e9 fa fb fc fd ff fg fh fi fj fk fl fm fn fo fq fs ft fu fv fw fx fy fz fA fC fD fE fF fG fH fI fJ fK fL dr ds dt du dv dw dx dy dz dA dC dD dE dF dG dH dI dJ dK dL dN dO dP dQ dR dS dT dU dV dW dY dZ d0 d1 d2 d3 d4 d5 d6 d7 d9:Value} (w':World),(∃ who' f' K',Hz B w' b who' (n+2) f' K'/\W.grownBy w' none/\(∀ c,c<5->(K' c).length<=(K c).length+4)/\Fr w w' who who' (fun g=>(Value.slice x1 m x3).ownBlock=some g\/(Value.slice d q l).ownBlock=some g))->Q .ret ⟨#[z0,z1,z2,z3,z4,z5,.bool true,z7,z8,z9,dq,dB,dM,dX,d8,ea,eb,ec,ed,ee,eg,eh,ei,ej,ek,el,em,en,eo,ep,eq,er,es,et,eu,ev,ew,ex,ey,ez,eB,eC,eD,eE,eF,eG,eH,eI,eJ,eK,eM,eN,eO,eP,eQ,eR,eS,eT,eU,eV,eW,eX,eY,eZ,e0,e9,fa,fb,fc,fd,ff,fg,fh,fi,fj,fk,fl,fm,fn,fo,fq,fs,ft,fu,fv,fw,fx,fy,fz,fA,fC,fD,fE,fF,fG,fH,fI,fJ,fK,fL,dr,ds,dt,du,dv,dw,dx,dy,dz,dA,dC,dD,dE,dF,dG,dH,dI,dJ,dK,dL,dN,dO,dP,dQ,dR,dS,dT,dU,dV,dW,dY,dZ,d0,d1,d2,d3,d4,d5,d6,d7,d9],[]⟩ w')):
  Code.wp Tryz.prog (tailOf Tryz.f6 6) Q ⟨#[.pointer (some ⟨b,0,none⟩),c1,c2,c3,c4,c5,c6,c7,.pointer (some ⟨s,0,none⟩),c9,aS,.pointer (some ⟨ab,0,none⟩),bd,.bool true,bA,bC,bD,bE,bF,bG,bI,bJ,bK,bL,bM,bN,bO,bP,bQ,bR,bT,bU,bV,bW,bX,bY,bZ,b0,b1,b2,b4,b5,b6,b7,b8,b9,ca,cb,cc,cd,cf,cg,ch,ci,cj,ck,cl,cm,cn,co,cp,cq,cr,cs,ct,cu,cv,cw,cx,cy,cA,cB,cC,cD,cE,cF,cG,cH,cI,cJ,cK,cL,cM,cN,cO,cP,cQ,cR,cS,cT,cV,cW,cX,cY,cZ,c8,da,db,dc,dd,aT,aU,aV,aW,aX,aY,aZ,a0,a1,a2,a3,a4,a5,a6,a7,a8,a9,ba,bb,bc,be,bf,bg,bh,bi,bj,bk,bl,bm,bn,bo,bp,bq,br,bt,bu,bv,bw,bx,bz,bB],[]⟩ w:=by
 conv=>arg 2;whnf
 have qm:(m:Int)<=500:=by omega
 have qq:(q:Int)<=4:=by omega
 go_wp2_with fail
 go_loopw [13,14] (fun ov iv w'=>∃ i:Nat,i<=m/\ov= .bool true/\iv= .int .i64 i/\Hid (Like w' w)) (fun _ iv _=>m - (intOf iv).toNat)
 case atStart=>exact⟨0,Nat.zero_le _,rfl,rfl,ij (iT _)⟩
 case round=>
  obtain⟨i,hi,rfl,rfl,p⟩:=hrel;obtain⟨w1,an⟩:∃ w1,w1=wr:=⟨_,rfl⟩;rw [<-an]at p ⊢;clear an;have a:Hid (w.grownBy w1 none):=iH p.out;have k3:=ip a.out _ _ af.out;by_cases dj:i<m
  ·have t0:(0:Int)<=(i:Int):=by omega
   have t1:(i:Int)<m:=by omega
   obtain⟨g,g',A,D,rfl,rfl,e1,T,e3,e4⟩:=aJ.out.pres (ip a.out) i dj;have k4:=ip a.out _ _ ar.out;go_wp2_with fail
   go_quiet (fail)
   go_wp2_with fail
   go_roundw
   case rel=>exact⟨i+1,by omega,by simp,by go_num,ij (jb p.out _)⟩
   case measure=>simp [intOf];omega
  ·have t1:(m:Int)<=(i:Int):=by omega
   go_wp2_with fail
   go_loopw [13,15] (fun ov iv w'=>∃ i:Nat,i<=q/\ov= .bool true/\iv= .int .i64 i/\Hid (Like w' w)) (fun _ iv _=>q - (intOf iv).toNat)
   case atStart=>exact⟨0,Nat.zero_le _,rfl,rfl,p⟩
   case round=>
    clear k3 a p;obtain⟨j,hj,rfl,rfl,p⟩:=hrel;obtain⟨o,ao⟩:∃ o,o=wr:=⟨_,rfl⟩;rw [<-ao]at p ⊢;clear ao;have a:Hid (w.grownBy o none):=iH p.out;have x:=ip a.out _ _ av.out;by_cases di:j<q
    ·have t2:(0:Int)<=(j:Int):=by omega
     have t3:(j:Int)<q:=by omega
     obtain⟨g,g',A,D,E,F,rfl,rfl,e1,T,e3,e4,e5,e6,e7,e8⟩:=aI.out.pres (ip a.out) j di;have k9:=ip a.out _ _ au.out;go_wp2_with fail
     go_quiet (fail)
     go_wp2_with fail
     go_roundw
     case rel=>exact⟨j+1,by omega,by simp,by go_num,ij (jb p.out _)⟩
     case measure=>simp [intOf];omega
    ·have t3:(q:Int)<=(j:Int):=by omega
     have k3:=ip a.out _ _ af.out;have Y:pt b= .pointer (some ⟨b,0,none⟩):=rfl;have O:=ij (sA B o b who n f K (.slice x1 m x3) m L (P.out.1.grown a.out) (iC HX.out a.out (fun _ e=>by cases e)) aC.out dk (by omega) (by have:=J.out 1 (by omega);omega) (by omega));rw [Y]at O;have v:Hid (o.ownsRow B 28 4 (.slice d q l) q G):=iC HY.out a.out (fun _ e=>by cases e);have ah:Hid (o.ownsRow B 76 2 (.slice x1 m x3) m L):=iC HX.out a.out (fun _ e=>by cases e);have aL:Hid (W.grownBy o none):=il HW.out a.out;have C:=ij x;go_wp2_with fail
     refine O.out.mono ?_;clear O k3 x;rintro e u ⟨⟨rv,rfl⟩,z,f3,R,V,r⟩;have am:s<o.heap.size:=World.block_lt_of_cell? o _ C.out;have aj:=r.fr.oth s am aA.out (fun e=>aB.out e);have x:u.cell? ⟨s,8,none⟩=some (.slice d q l):=by rw [World.cell?_of_block aj.1];exact C.out
     have Z:∀ g,(Value.slice d q l).ownBlock=some g->u.heap[g]?=o.heap[g]?/\z g= .other:=fun g e=>r.fr.oth g (iP v.out g e) (aD.out g e) (fun T=>xf ah.out v.out T e)
     have aQ:Hid (u.ownsRow B 28 4 (.slice d q l) q G):=iI v.out (fun g e=>(Z g e).1);have aE:Hid (∀ g,(Value.slice d q l).ownBlock=some g->z g= .other):=fun g e=>(Z g e).2
     have aO:Hid (∀ g,(Value.slice x1 m x3).ownBlock=some g->W.heap.size<=g):=fun g e=>by have:=iA ah.out g e;omega
     have aR:Hid (∀ g,(Value.slice d q l).ownBlock=some g->W.heap.size<=g):=fun g e=>by have:=iA v.out g e;omega
     have aM:Hid (W.grownBy u none):=r.fr.base aL.out ak (fun g e=>(P.out.1.1.dom g e).1) aO.out;have aG:Hid (Fr w u who z (fun g=>(Value.slice x1 m x3).ownBlock=some g\/(Value.slice d q l).ownBlock=some g)):=(Fr.grown a.out).trans (r.fr.mono fun _ e=>Or.inl e);have aw:Hid (∀ k,k<5->f3 k= .slice none 0 0):=fun k hk=>by rw [r.lent k hk];exact P.out.2 k hk
     have M:Hid (∀ c,c<5->(R c).length<=(K c).length+4/\(c≠1->(R c).length<=(K c).length)):=fun c hc=>by
      by_cases e:c=1
      ·subst e;have:=r.len;exact⟨by omega,fun h=>absurd rfl h⟩
      ·rw [r.oth c e];exact⟨by omega,fun _=>by omega⟩
     have N:=ij (tZ B u b z (n+1) f3 R (.slice d q l) q G V aQ.out aE.out (by omega) (by omega) (by have:=M.out 2 (by omega);have:=J.out 2 (by omega);omega) (by omega));rw [Y]at N;have ay:=ij V;clear V r Z aj am C;go_wp2_with fail
     refine N.out.mono ?_;clear N x;rintro e y ⟨⟨rv',rfl⟩,ad,U,S,X,t⟩;have aN:Hid (W.grownBy y none):=t.fr.base aM.out ak (fun g e=>(ay.out.1.dom g e).1) aR.out;have aH:Hid (Fr w y who ad (fun g=>(Value.slice x1 m x3).ownBlock=some g\/(Value.slice d q l).ownBlock=some g)):=aG.out.trans (t.fr.mono fun _ e=>Or.inr e);have ax:Hid (∀ k,k<5->U k= .slice none 0 0):=fun k hk=>by rw [t.lent k hk];exact aw.out k hk
     have ag:Hid (∀ c,c<5->(S c).length<=(K c).length+4):=fun c hc=>by
      by_cases e:c=2
      ·subst e;have:=t.len;have:=(M.out 2 (by omega)).2 (by omega);omega
      ·rw [t.oth c e];exact(M.out c hc).1
     have I:=ij (mK B y b ad (n+1+1) U S X (fun c hc=>by have:=ag.out c hc;have:=J.out c hc;omega));rw [Y]at I;have az:=ij X;clear X t;go_wp2_with fail
     refine I.out.mono ?_;clear I;rintro e w5 ⟨rfl,al⟩;have H:Hid (y.grownBy w5 none):=iH al;clear al;go_wp2_with fail
     exact HQ.out w5 ⟨ad,U,S,⟨by have:=az.out.grown H.out;rw [show n+1+1=n+2 by omega]at this;exact this,ax.out⟩,il aN.out H.out,ag.out,aH.out.stepG H.out⟩
end
end Go.Proofs.YtklenjmfalljgabGreatDoor
