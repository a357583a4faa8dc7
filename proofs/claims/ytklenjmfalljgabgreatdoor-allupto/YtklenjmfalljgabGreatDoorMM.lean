/- The texts RefE RefF RefG Rgd Rge Rgk Kqd Hgy Wrt3. -/
import Derived.Test.YtklenjmfalljgabGreatDoorML
namespace Go.Proofs.YtklenjmfalljgabGreatDoor
set_option maxRecDepth 100000
set_option maxHeartbeats 8000000
section
open Go.RowKit
attribute [local go_sem] Go.World.cell?_alloc_some
def GN(p:AO)(v:Value):Value:= .tuple #[v, .int .i64 p.at_, .int .i64(Gm p.ok)]
theorem xe(l:List Nat)(k:Nat):kU l(k+1)=if m7(-1)(l.take(k+1))=true then k+1 else kU l k:=rfl
theorem zt(s:ByteArray)(w:World)(hs:s.size<=1048576):
  Calls Tryz.prog 46 #[.string s]w fun e w'=>∃ x y z,e= .returned(GN(lK(byt s))(.slice x y z))/\w'.ownsRow w.heap.size 3 1(.slice x y z)(lK(byt s)).out.length(iI(lK(byt s)).out)/\w.grownBy w' none:=by
 have af:∀ w4:World,w4.ownsRow w.heap.size 3 1(.slice none 0 0)([]:List Int).length(iI []):=fun w4=>⟨rfl,Or.inl⟨rfl,rfl⟩⟩
 have aa:=hZ af;clear af;by_cases h0:s.toList= []
 ·have HE:Hid(lK(byt s)=⟨[],0,true⟩):=by unfold Hid;rw [(nJ s).2 h0];rfl
  go_enter Tryz.func46,Tryz.ntmps46
  go_wp2_with fail
  refine bodyPost_ret(v:= .tuple #[.slice none 0 0, .int .i64 0, .int .i64 0])(by simp [results,Tryz.results46,go_sem])rfl ?_;exact⟨none,0,0,by rw [HE.out];rfl,by rw [HE.out];exact aa.out _,il _ _⟩
 ·have hie:s.toList.isEmpty=false:=by simpa using h0
  have HR:Hid(lK(byt s)=match jg(iY(byt s))(-1) []with
    | some(o,_)=>if 500<o.length then⟨[],0,false⟩else⟨o,0,true⟩
    | none=>⟨[],kU(byt s)(byt s).length,false⟩):=by
   unfold Hid;conv=>lhs;unfold lK
   rw [if_neg(fun e=>h0((nJ s).1 e))];cases jg(iY(byt s))(-1) []<;>rfl
  clear h0;have aB:Hid(∀ (u:ByteArray),u.size<=1048576->∀ w2:World,w.grownBy w2 none->Calls Tryz.prog 74 #[.string u]w2 fun e w'=>∃ (L:List ByteArray)(x:Option Addr)(z:Nat),e= .returned(.slice x L.length z)/\L.map byt=iY(byt u)/\(∀ y∈L,y.size<=1048576)/\StrsAt w'(.slice x L.length z)L/\w.grownBy w' none/\L.length<=z/\L.length<=9223372036854775806):=by
   intro u hu w2 ak;refine(Fb u w2 hu).mono ?_;rintro e w3⟨L,x,z,rfl,h1,h2,h3,h4⟩;have hz:L.length<=z/\z<=maxLen:=by
    rcases h3.2 with⟨e1,e2⟩ | ⟨_,_,_,e1,_,_,e2,e3,_⟩
    ·simp only [Value.slice.injEq]at e1;exact⟨by omega,by unfold maxLen;omega⟩
    ·simp only [Value.slice.injEq,true_and]at e1;exact⟨by omega,by omega⟩
   have hL:L.length<=u.size+1:=by
    have e1:=congrArg List.length h1;rw [List.length_map]at e1;have:∀ l:List Nat,(iY l).length<=l.length+1:=by
     intro l;induction l with
     | nil=>simp [iY]
     | cons b r ih=>
      unfold iY;split
      ·simp;omega
      ·simp;omega
    have:=this(byt u);rw [iP]at this;omega
   exact⟨L,x,z,rfl,h1,fun y hy=>by have:=h2 y hy;omega,BM h3,ic ak h4,hz.1,by omega⟩
  go_enter Tryz.func46,Tryz.ntmps46
  go_wp2_with fail
  refine(aB.out s hs w(il _ _)).mono ?_;rintro e w1⟨L,x,z,rfl,h1,h2,h3,h4,h5,h6⟩;have aC:=hZ h4;have ad:=hZ(Ac L(.slice x L.length z)w1 h3(fun y hy=>by have:=h2 y hy;omega)h6);rw [h1]at ad;clear h1 h2 h3 h4 h5 h6;go_wp2_with fail
  refine ad.out.mono ?_;clear ad;rintro e w2⟨y1,y2,y3,rfl,ar,ak,hl2⟩;have an:Hid(w.grownBy w2 none):=ic aC.out ak;have ay:Hid(w2.ownsRow w.heap.size 3 1(.slice y1 y2 y3)(r9(jg(iY(byt s))(-1) [])).length(iI(r9(jg(iY(byt s))(-1) [])))):=iN ar aC.out.size;have aM:=iy ar;clear ar ak;generalize jg(iY(byt s))(-1) []=W at*;cases W with
  | some oa=>
   obtain⟨o,a⟩:=oa;simp only [tH,r9]at*;subst aM;by_cases h5:500<o.length
   ·have HE:Hid(lK(byt s)=⟨[],0,false⟩):=by unfold Hid;rw [HR.out,if_pos h5]
    have aD:500<(o.length:Int):=by omega
    go_wp2_with fail
    refine bodyPost_ret(v:= .tuple #[.slice none 0 0, .int .i64 0, .int .i64 4])(by simp [results,Tryz.results46,go_sem])rfl ?_;exact⟨none,0,0,by rw [HE.out];rfl,by rw [HE.out];exact aa.out _,an.out⟩
   ·have HE:Hid(lK(byt s)=⟨o,0,true⟩):=by unfold Hid;rw [HR.out,if_neg h5]
    have aD:¬500<(o.length:Int):=by omega
    go_wp2_with fail
    refine bodyPost_ret(v:= .tuple #[.slice y1 o.length y3, .int .i64 0, .int .i64 0])(by simp [results,Tryz.results46,go_sem])rfl ?_;exact⟨y1,o.length,y3,by rw [HE.out];rfl,by rw [HE.out];exact ay.out,an.out⟩
  | none=>
   simp only [tH,r9]at*;have HE:Hid(lK(byt s)=⟨[],kU(byt s)s.size,false⟩):=by unfold Hid;rw [HR.out,iP]
   clear HR ay;go_wp2_with fail
   go_loopw [8](fun kv w'=>∃ k:Nat,k<=s.size/\kv= .int .i64 k/\Hid(kU(byt s)k=kU(byt s)s.size)/\Hid(w.grownBy w' none))(fun kv _=>(intOf kv).toNat)
   case atStart=>exact⟨s.size,Nat.le_refl _,rfl,hZ rfl,an⟩
   case round=>
    obtain⟨k,hk,rfl,HS,HG⟩:=hrel;obtain⟨w5,aJ⟩:∃ w5,w5=wr:=⟨_,rfl⟩;subst aJ;cases k with
    | zero=>
     have ah:Hid(lK(byt s)=⟨[],0,false⟩):=by unfold Hid;rw [HE.out,<-HS.out];rfl
     go_wp2_with fail
     refine bodyPost_ret(v:= .tuple #[.slice none 0 0, .int .i64 0, .int .i64 4])(by simp [results,Tryz.results46,go_sem])rfl ?_;exact⟨none,0,0,by rw [ah.out];rfl,by rw [ah.out];exact aa.out _,HG.out⟩
    | succ k=>
     have ai:=xe(byt s)k;rw [HS.out]at ai;have aE:((k+1:Nat):Int)=(k:Int)+1:=by omega
     obtain⟨m,hm⟩:∃ m,m=k+1:=⟨_,rfl⟩;rw [<-hm]at ai hk ⊢;have q0:(0:Int)<(m:Int):=by omega
     have q1:(m:Int)<=s.size:=by omega
     have ag:(s.extract 0 m).size<=1048576:=by simp;omega
     have aA:byt(s.extract 0 m)=(byt s).take m:=by rw [nM,List.drop_zero]
     have al:=hZ(aB.out(s.extract 0 m)ag w5 HG.out);rw [aA]at al;have au:=hZ ai;have ae:=hZ hm;clear ai ag aA HS aE hm;go_wp2_with fail
     refine al.out.mono ?_;clear al;rintro e w6⟨M,x',z',rfl,m1,m2,m3,m4,m5,m6⟩;have av:0<M.length:=by
      have:=congrArg List.length m1;rw [List.length_map]at this;have h2:=List.length_pos_iff.2(tB((byt s).take m));omega
     obtain⟨j,hj⟩:∃ j,M.length=j+1:=⟨M.length - 1,by omega⟩;have ab:j<M.length:=by omega
     have aL:=m3;obtain⟨ao,cp,e3,ac⟩:=aL;simp only [Value.slice.injEq,true_and]at e3;obtain⟨rfl,rfl⟩:=e3;obtain⟨g,o,rfl,c0⟩:=ac j ab;have az:=hZ(m3.init j(by omega));have ax:(M.take j).map byt=(iY((byt s).take m)).dropLast:=by
      rw [<-m1,List.dropLast_eq_take,List.length_map,hj,Nat.add_sub_cancel,List.map_take]
     have aw:(iY((byt s).take m)).getLastD []=byt M[j]:=by
      rw [<-m1];rw [List.getLastD_eq_getLast?,List.getLast?_eq_getElem?,List.length_map,hj,Nat.add_sub_cancel,List.getElem?_map,List.getElem?_eq_getElem ab];rfl
     have ad:=hZ(Ac(M.take j)(.slice(some⟨g,o,none⟩)j z')w6 az.out(fun y hy=>by have:=m2 y(List.mem_of_mem_take hy);omega)(by simp;omega));rw [ax]at ad;have HV:Hid(m7(-1)((byt s).take m)=match jg(iY((byt s).take m)).dropLast(-1) []with
       | none=>false
       | some(_,a)=>jc(byt M[j])a):=by
      unfold Hid m7;rw [aw];cases jg(iY((byt s).take m)).dropLast(-1) []<;>rfl
     have aK:=hZ(m2 M[j](List.getElem_mem ab));have aG:=hZ m4;have hjz:(j:Int)<=(z':Int):=by omega
     have hjz2:(j:Int)+1<=(z':Int):=by omega
     generalize M[j]=mj at*;rw [hj];have hj0:(0:Int)<=(j:Int):=by omega
     have hj1:(j:Int)<(j:Int)+1:=by omega
     have hj9:(j:Int)<=9223372036854775805:=by omega
     clear m1 m2 m3 m4 m5 ac ax aw az av ab m6 hj;go_wp2_with(go_at_call 73;refine ad.out.mono ?_)
     clear ad;rintro e w7⟨a1,a2,a3,rfl,aH,am,aF⟩;have aq:Hid(w.grownBy w7 none):=ic aG.out am;have d0:=ie am _ _ c0;clear aH am aF c0;cases hW:jg(iY((byt s).take m)).dropLast(-1) []with
     | none=>
      rw [hW]at HV;simp only [tH];have ap:Hid(kU(byt s)k=kU(byt s)s.size):=by
       unfold Hid;rw [au.out,HV.out,if_neg(by simp)]
      go_wp2_with fail
      go_roundw
      case rel=>exact⟨k,by have:=ae.out;omega,by rw [ae.out];go_num,ap,aq⟩
      case measure=>have:=ae.out;simp [intOf];omega
     | some oa=>
      obtain⟨o',a⟩:=oa;rw [hW]at HV;simp only [tH];simp only at HV;have HB:=hZ(BK mj a w7(by have:=aK.out;omega));cases hbg:jc(byt mj)a with
      | true=>
       have ah:Hid(lK(byt s)=⟨[],m,false⟩):=by unfold Hid;rw [HE.out,au.out,HV.out,hbg,if_pos rfl]
       rw [hbg]at HB;go_wp2_with(go_at_call 75;refine HB.out.mono ?_;rintro e w8⟨aj,rfl⟩)
       refine bodyPost_ret(v:= .tuple #[.slice none 0 0, .int .i64 m, .int .i64 4])(by simp [results,Tryz.results46,go_sem])rfl ?_;exact⟨none,0,0,by rw [ah.out];rfl,by rw [ah.out];exact aa.out _,jd aq.out aj⟩
      | false=>
       have ap:Hid(kU(byt s)k=kU(byt s)s.size):=by
        unfold Hid;rw [au.out,HV.out,hbg,if_neg(by simp)]
       rw [hbg]at HB;go_wp2_with(go_at_call 75;refine HB.out.mono ?_;rintro e w8⟨aj,rfl⟩;have aI:Hid(w.grownBy w8 none):=jd aq.out aj;clear aj)
       go_roundw
       case rel=>exact⟨k,by have:=ae.out;omega,by rw [ae.out];go_num,ap,aI⟩
       case measure=>have:=ae.out;simp [intOf];omega
end
section
open Go.RowKit
attribute [local go_sem] Go.World.cell?_alloc_some
theorem rW(l:List Int)(v:Value)(w:World)(hI:IntsAt w.heap.size w v l):
  Calls Tryz.prog 65 #[v]w fun e w'=>e= .returned(.bool(i8 l))/\w.grownBy w' none:=by
 obtain⟨ao,cap,rfl,hcap,hc⟩:=hI;by_cases h5:l.length<=500
 ·have g5:(l.length:Int)<=500:=by omega
  have HV:Hid(i8 l=l.all okN):=by unfold Hid i8;rw [decide_eq_true h5];rfl
  have HC:=hZ hc;clear hc;go_enter Tryz.func65,Tryz.ntmps65
  go_wp2
  go_loopw [3](fun i w'=>∃ k:Nat,k<=l.length/\i= .int .i64 k/\w'=w/\Hid((l.take k).all okN=true))(fun i _=>l.length - (intOf i).toNat)
  case atStart=>exact⟨0,Nat.zero_le _,rfl,rfl,rfl⟩
  case round=>
   obtain⟨k,hk,rfl,rfl,HA⟩:=hrel;by_cases ac:k<l.length
   ·obtain⟨g,o,rfl,hg,c0⟩:=HC.out k ac;have ab:=hZ(la l okN k ac);have hk0:(0:Int)<=(k:Int):=by omega
    have hk1:(k:Int)<l.length:=by omega
    have HF:Hid(okN l[k]=false->i8 l=false):=by
     intro h;rw [HV.out];have:(l.take(k+1)).all okN=false:=by rw [ab.out,h];simp
     rw [<-List.take_append_drop(k+1)l,List.all_append,this];rfl
    generalize l[k]=x at*;by_cases h0:0<=x
    ·by_cases ad:x<=63
     ·have af:Hid((l.take(k+1)).all okN=true):=by unfold Hid;rw [ab.out,HA.out];simp [okN,h0,ad]
      have ae:¬x<0:=by omega
      have aa:¬63<x:=by omega
      go_wp2
      go_roundw
      case rel=>exact⟨k+1,by omega,by go_num,trivial,af⟩
      case measure=>simp [intOf];omega
     ·have HE:=hZ(HF.out(by simp [okN,ad]));have aa:63<x:=by omega
      go_wp2
      go_ret;exact⟨by rw [HE.out];rfl,il _ _⟩
    ·have HE:=hZ(HF.out(by simp [okN,h0]));have ae:x<0:=by omega
     go_wp2
     go_ret;exact⟨by rw [HE.out];rfl,il _ _⟩
   ·have HE:Hid(i8 l=true):=by
     unfold Hid;rw [HV.out];have:=HA.out;rw [List.take_of_length_le(by omega)]at this;exact this
    go_wp2
    go_ret;exact⟨by rw [HE.out];rfl,il _ _⟩
 ·have g5:500<(l.length:Int):=by omega
  have HV:Hid(i8 l=false):=by unfold Hid i8;rw [decide_eq_false h5];rfl
  clear hc;go_enter Tryz.func65,Tryz.ntmps65
  go_wp2
  go_ret;exact⟨by rw [HV.out];rfl,il _ _⟩
def lJ:List Int->Nat
 | []=>0
 | t::r=>(r.takeWhile(· ==t)).length+1
theorem ou(t:Int)(r:List Int):lJ(t::r)=(r.takeWhile(· ==t)).length+1:=rfl
theorem FW(t:Int)(r:List Int)(k:Nat)(hk:k<(t::r).length)(ha:∀ j(hj:j<(t::r).length),j<k->(t::r)[j]=t)(aa:(t::r)[k]≠t):lJ(t::r)=k:=by
 rw [ou];cases k with
 | zero=>exact absurd rfl aa
 | succ k=>
  have h1:∀ (q:List Int)(k:Nat)(hk:k<q.length),(∀ j(hj:j<q.length),j<k->q[j]=t)->q[k]≠t->(q.takeWhile(· ==t)).length=k:=by
   intro q;induction q with
   | nil=>intro k hk;simp at hk
   | cons b q ih=>
    intro k hk h1 h2;cases k with
    | zero=>rw [List.takeWhile_cons,if_neg(by simpa using h2)];rfl
    | succ k=>
     have h0:=h1 0(by simp)(by omega);simp at h0;rw [List.takeWhile_cons,if_pos(by simpa using h0)];simp;exact ih k(by simpa using hk)(fun j hj hjk=>by have:=h1(j+1)(by simpa using hj)(by omega);simpa using this)(by simpa using h2)
  rw [h1 r k(by simpa using hk)(fun j hj hjk=>by have:=ha(j+1)(by simpa using hj)(by omega);simpa using this)(by simpa using aa)]
theorem En(t:Int)(r:List Int)(ha:∀ j(hj:j<(t::r).length),(t::r)[j]=t):lJ(t::r)=(t::r).length:=by
 rw [ou];have:r.takeWhile(· ==t)=r:=by
  have h2:∀ x∈r,x=t:=by
   intro x hx;obtain⟨j,hj,rfl⟩:=List.getElem_of_mem hx;have:=ha(j+1)(by simpa using hj);simpa using this
  clear ha;induction r with
  | nil=>rfl
  | cons b q ih=>rw [List.takeWhile_cons,if_pos(by simpa using h2 b(by simp)),ih(fun x hx=>h2 x(by simp [hx]))]
 rw [this];rfl
theorem zY(t:Int)(r:List Int):grp(t::r)=(t,(lJ(t::r):Int))::grp((t::r).drop(lJ(t::r))):=by
 induction r generalizing t with
 | nil=>simp [grp,lJ]
 | cons b q ih=>
  have e:=ih b;by_cases h:t=b
  ·subst h;have e1:lJ(t::t::q)=lJ(t::q)+1:=by simp [lJ]
   rw [grp,e,e1];simp
  ·have e1:lJ(t::b::q)=1:=by
    rw [ou,List.takeWhile_cons,if_neg(by simpa using fun e=>h e.symm)];rfl
   rw [grp,e1,e];simp [h];exact e.symm
theorem B6(l:List Int):lJ l<=l.length:=by
 cases l with
 | nil=>simp [lJ]
 | cons t r=>
  rw [ou];have:=(List.takeWhile_sublist(· ==t)(l:=r)).length_le;simpa using this
theorem zZ(t:Int)(r:List Int)(v:Value)(w:World)(hI:IntsAt w.heap.size w v(t::r))(hln:(t::r).length<=1000000):
  Calls Tryz.prog 68 #[v]w fun e w'=>e= .returned(.int .i64(lJ(t::r)))/\w.grownBy w' none:=by
 obtain⟨ao,cap,rfl,hcap,hc⟩:=hI;obtain⟨g,o,rfl,hg,c0⟩:=hc 0(by simp);have HC:Hid(∀ k(hk:k<(t::r).length),w.cell?⟨g,o+k,none⟩=some(.int .i64(t::r)[k])):=by
  intro k hk;obtain⟨g',o',e,_,c⟩:=hc k hk;simp only [Option.some.injEq,Addr.mk.injEq,and_true]at e;obtain⟨rfl,rfl⟩:=e;exact c
 simp only [List.getElem_cons_zero,Nat.add_zero]at c0;clear hc;have hpos:0<(t::r).length:=by simp
 generalize hl:t::r=l at*;have ac:=hZ hl;clear hl;have hpos':(0:Int)<l.length:=by omega
 go_enter Tryz.func68,Tryz.ntmps68
 go_wp2_with fail
 go_loopw [3](fun i w'=>∃ k:Nat,k<=l.length/\i= .int .i64 k/\Hid(jr w' w)/\Hid(∀ j(hj:j<l.length),j<k->l[j]=t))(fun i _=>l.length - (intOf i).toNat)
 case atStart=>exact⟨0,Nat.zero_le _,rfl,hZ(jp _),hZ(fun j _ h=>by omega)⟩
 case round=>
  obtain⟨k,hk,rfl,HK,HA⟩:=hrel;obtain⟨w5,af⟩:∃ w5,w5=wr:=⟨_,rfl⟩;subst af;have cL:∀ a,w5.cell? a=w.cell? a:=fun a=>by simp [World.cell?,HK.out.1]
  have c1:w5.cell?⟨g,o,none⟩=some(.int .i64 t):=by rw [cL];exact c0
  by_cases ab:k<l.length
  ·have c2:w5.cell?⟨g,o+k,none⟩=some(.int .i64 l[k]):=by rw [cL];exact HC.out k ab
   have hk0:(0:Int)<=(k:Int):=by omega
   have ae:(k:Int)<l.length:=by omega
   clear cL c0;by_cases aa:l[k]=t
   ·have hq:(l[k]==t)=true:=by simpa using aa
    have ad:Hid(∀ j(hj:j<l.length),j<k+1->l[j]=t):=by
     intro j hj hjk;by_cases e:j=k
     ·subst e;exact aa
     ·exact HA.out j hj(by omega)
    clear aa;generalize l[k]=x at*;go_wp2_with fail
    go_quiet(fail)
    go_wp2_with fail
    go_roundw
    case rel=>exact⟨k+1,by omega,by go_num,hZ(jR HK.out _),ad⟩
    case measure=>simp [intOf];omega
   ·have hq:(l[k]==t)=false:=by simpa using aa
    have HE:Hid(lJ l=k):=by
     have h1:=HA.out;have h2:=ac.out;subst h2;exact FW t r k ab h1 aa
    clear aa;generalize l[k]=x at*;go_wp2_with fail
    go_quiet(fail)
    go_wp2_with fail
    go_ret;exact⟨by rw [HE.out];rfl,iU _(iH HK.out)⟩
  ·have HE:Hid(lJ l=k):=by
    have h1:=HA.out;have h2:=ac.out;subst h2;rw [En t r(fun j hj=>h1 j hj(Nat.lt_of_lt_of_le hj(Nat.le_of_not_lt ab)))];exact Nat.le_antisymm(Nat.le_of_not_lt ab)hk
   have ae:decide((k:Int)<l.length)=false:=by simp;omega
   clear cL c0;go_wp2_with fail
   go_quiet(fail)
   go_wp2_with fail
   go_ret;exact⟨by rw [HE.out];rfl,iU _(iH HK.out)⟩
end
section
open Go.RowKit
attribute [local go_sem] Go.World.cell?_alloc_some
def lenOf:Value->Nat
 | .slice _ n _=>n
 | _=>0
def dgs:ByteArray:=⟨#[48,49,50,51,52,53,54,55,56,57]⟩
theorem CF(k:Nat)(h:k<10):(dgs.extract k(k+1)).data.toList= [UInt8.ofNat(48+k)]:=by
 have:k=0\/k=1\/k=2\/k=3\/k=4\/k=5\/k=6\/k=7\/k=8\/k=9:=by omega
 rcases this with rfl | rfl | rfl | rfl | rfl | rfl | rfl | rfl | rfl | rfl<;>decide+kernel
def yZ(n:Nat):List UInt8:=if n=0 then []else Lib.decDigits n
theorem xz(n:Nat)(h:0<n):yZ n=yZ(n / 10)++ [UInt8.ofNat(48+n % 10)]:=by
 unfold yZ;rw [if_neg(by omega)];by_cases aa:n<10
 ·rw [if_pos(by omega),Lib.decDigits,dif_pos aa,Nat.mod_eq_of_lt aa];rfl
 ·rw [if_neg(by omega)];conv=>lhs;rw [Lib.decDigits,dif_neg aa]
theorem Er(n:Nat):Lib.decDigits n=yZ(n / 10)++ [UInt8.ofNat(48+n % 10)]:=by
 by_cases h:n=0
 ·subst h;decide+kernel
 ·have:=xz n(by omega);rw [<-this,yZ,if_neg h]
theorem Dr(n:Nat)(w:World)(hn:n<1000):
  Calls Tryz.prog 78 #[.int .i64 n]w fun e w'=>e= .returned(.string⟨(Lib.itoa n).toArray⟩)/\w'=w:=by
 have ac:(n:Int).tmod 10=((n % 10:Nat):Int):=by rw [Int.tmod_eq_emod_of_nonneg(by omega)];omega
 have af:(n:Int).tdiv 10=((n / 10:Nat):Int):=by rw [Int.tdiv_eq_ediv_of_nonneg(by omega)];omega
 have ab:n % 10<10:=Nat.mod_lt _(by decide);have HI:Hid((⟨(Lib.itoa n).toArray⟩:ByteArray).data.toList=Lib.decDigits n):=by
  unfold Hid Lib.itoa;rw [if_neg(by omega)];simp
 have H0:=hZ(CF(n % 10)ab);have HD:=hZ(Er n);have ae:n / 10<=100:=by omega
 generalize aa:n % 10=d at*;generalize ad:n / 10=q at*;clear aa ad;have e1:(0:Int)<=(d:Int):=by omega
 have e2:(d:Int)<10:=by omega
 go_enter Tryz.func78,Tryz.ntmps78
 go_wp2_with fail
 go_loopw [0,4](fun i sv w'=>∃ (m:Nat)(t:ByteArray),i= .int .i64 m/\sv= .string t/\Hid(w'=w)/\Hid(yZ m++t.data.toList=Lib.decDigits n)/\m<=100)(fun i _ _=>(intOf i).toNat)
 case atStart=>exact⟨q,dgs.extract d(d+1),rfl,rfl,hZ rfl,hZ(by rw [H0.out,HD.out]),ae⟩
 case round=>
  obtain⟨m,t,rfl,rfl,HW,HP,hm⟩:=hrel;obtain rfl:=HW.out;by_cases h0:0<m
  ·have ac:(m:Int).tmod 10=((m % 10:Nat):Int):=by rw [Int.tmod_eq_emod_of_nonneg(by omega)];omega
   have af:(m:Int).tdiv 10=((m / 10:Nat):Int):=by rw [Int.tdiv_eq_ediv_of_nonneg(by omega)];omega
   have ab:m % 10<10:=Nat.mod_lt _(by decide);have ag:Hid(yZ(m / 10)++(dgs.extract(m % 10)(m % 10+1)++t).data.toList=Lib.decDigits n):=by
    unfold Hid;rw [<-HP.out,xz m h0,ByteArray.data_append,Array.toList_append,CF(m % 10)ab,List.append_assoc]
   have hts:t.size<=3:=by
    have h1:=congrArg List.length HP.out;have h2:=zT hn;simp at h1;omega
   have ah:m / 10<=100:=by omega
   have hlt:m / 10<m:=by omega
   generalize aa:m % 10=d' at*;generalize ad:m / 10=q' at*;clear aa ad;have e3:(0:Int)<=(d':Int):=by omega
   have e4:(d':Int)<10:=by omega
   have e5:(0:Int)<(m:Int):=by omega
   go_wp2_with fail
   go_roundw
   case rel=>exact⟨q',dgs.extract d'(d'+1)++t,rfl,rfl,hZ trivial,ag,ah⟩
   case measure=>simp [intOf];omega
  ·have ac:m=0:=by omega
   subst ac;have HE:Hid((⟨(Lib.itoa n).toArray⟩:ByteArray)=t):=by
    unfold Hid;apply ByteArray.ext;apply Array.ext';rw [HI.out,<-HP.out];rfl
   go_wp2_with fail
   go_ret;exact⟨by rw [HE.out];rfl,rfl⟩
def nZ(m:Nat):ByteArray:=⟨(Lib.itoa m).toArray⟩
theorem qr(n:Nat)(w:World)(hn:n<1000):Calls Tryz.prog 78 #[.int .i64 n]w fun e w'=>e= .returned(.string(nZ n))/\w'=w:=Dr n w hn
theorem uD {m:Nat}(h:m<1000):(nZ m).size<=3:=by
 unfold nZ;simpa [ByteArray.size]using oR(n:=(m:Int))(by omega)(by omega)
theorem uP(m:Nat):(nZ m).data.toList=Lib.itoa m:=rfl
def BA(out:List UInt8)(l:List Int):List UInt8:=if l= []then out else if out= []then lU l else out++ [32]++lU l
theorem El(t n:Int):kY t n≠ []:=by
 have h:∀ n:Int,Lib.itoa n≠ []:=by
  intro n;unfold Lib.itoa;split
  ·simp
  ·rw [Lib.decDigits];split<;>simp
 unfold kY;split
 ·exact h t
 ·simp
theorem CD(x:List UInt8)(q:List(List UInt8)):Lib.join(x::q) [32]=if q= []then x else x++ [32]++Lib.join q [32]:=by
 cases q with
 | nil=>rw [Lib.join_one];rfl
 | cons y r=>rw [Lib.join_cons,Lib.join_cons,if_neg(by simp)];simp [Lib.joinTail]
def my(out:List UInt8)(wd:List UInt8):List UInt8:=if out= []then wd else out++ [32]++wd
theorem Cy(out:List UInt8)(t:Int)(r:List Int):
  BA(my out(kY t(lJ(t::r))))((t::r).drop(lJ(t::r)))=BA out(t::r):=by
 have hg:=zY t r;have hw:=El t(lJ(t::r));have hp:lU(t::r)=if((t::r).drop(lJ(t::r)))= []then kY t(lJ(t::r))else kY t(lJ(t::r))++ [32]++lU((t::r).drop(lJ(t::r))):=by
  unfold lU;rw [hg,List.map_cons,CD];by_cases he:(t::r).drop(lJ(t::r))= []
  ·rw [he];simp [grp]
  ·rw [if_neg he,if_neg(by simpa using Gb he)]
 generalize(t::r).drop(lJ(t::r))=rest at*;generalize kY t(lJ(t::r))=wd at*;unfold BA my;rw [if_neg(show ¬(t::r)= []by simp),hp];by_cases ho:out= []
 ·rw [if_pos ho,if_pos ho];by_cases hr:rest= []
  ·rw [if_pos hr,if_pos hr]
  ·rw [if_neg hr,if_neg hw,if_neg hr]
 ·rw [if_neg ho,if_neg ho];by_cases hr:rest= []
  ·rw [if_pos hr,if_pos hr]
  ·rw [if_neg hr,if_neg(by simp),if_neg hr];simp
theorem IntsAt.tail {B:Nat} {w:World} {g o aa:Nat} {l:List Int}(h:IntsAt B w(.slice(some⟨g,o,none⟩)l.length aa)l)(k:Nat)(hk:k<=l.length)(a:Option Addr)(ha:k<l.length->a=some⟨g,o+k,none⟩):IntsAt B w(.slice a(l.length - k)(aa - k))(l.drop k):=by
 obtain⟨ao,cap',e,hcap,hc⟩:=h;simp only [Value.slice.injEq,true_and]at e;obtain⟨rfl,rfl⟩:=e;refine⟨a,aa - k,by simp,by simp;omega,fun j hj=> ?_⟩;have ab:k+j<l.length:=by simp at hj;omega
 obtain⟨g',o',e,hb,c⟩:=hc(k+j)ab;simp only [Option.some.injEq,Addr.mk.injEq,and_true]at e;obtain⟨rfl,rfl⟩:=e;refine⟨g,o+k,ha(by omega),hb, ?_⟩;rw [Nat.add_assoc,c];simp
theorem DO(s:ByteArray):(⟨s.data.toList.toArray⟩:ByteArray)=s:=by cases s;rfl
theorem yX(l:List Int)(v:Value)(w:World)(hI:IntsAt w.heap.size w v l):
  Calls Tryz.prog 48 #[v]w fun e w'=>w.grownBy w' none/\((i8 l=true/\e= .returned(.tuple #[.string⟨(lU l).toArray⟩, .int .i64 0]))\/(i8 l=false/\e= .returned(.tuple #[.string⟨#[]⟩, .int .i64 2]))):=by
 have HI:=hZ hI;obtain⟨ao,ay,rfl⟩:=hI.form;clear hI;go_enter Tryz.func48,Tryz.ntmps48
 go_wp2_with fail
 refine(rW l _ w HI.out).mono ?_;rintro e w1⟨rfl,an⟩;have az:=hZ an;have aI:Hid(IntsAt w1.heap.size w1(.slice ao l.length ay)l):=(HI.out.pres(ie an)).mono an.size;clear an HI;cases hv:i8 l with
 | false=>
  go_wp2_with fail
  refine bodyPost_ret(v:= .tuple #[.string⟨#[]⟩, .int .i64 2])(by simp [results,Tryz.results48,go_sem])rfl ?_;exact⟨az.out,Or.inr⟨hv,rfl⟩⟩
 | true=>
  have aA:=hv;simp only [i8,Bool.and_eq_true,decide_eq_true_eq,List.all_eq_true]at aA;obtain⟨ar,al⟩:=aA;have ax:=hZ al;have aH:=hZ hv;clear hv al;go_wp2_with fail
  go_loopw [0,5](fun sv ov w'=>∃ (a:Option Addr)(c:Nat)(aa:List Int)(out:ByteArray),sv= .slice a aa.length c/\ov= .string out/\Hid(IntsAt w1.heap.size w1(.slice a aa.length c)aa)/\Hid(w1.grownBy w' none)/\Hid(BA out.data.toList aa=lU l)/\Hid(∀ x∈aa,x∈l)/\aa.length<=500/\out.size+8*aa.length<=4000)(fun sv _ _=>lenOf sv)
  case atStart=>exact⟨ao,ay,l,⟨#[]⟩,rfl,rfl,aI,hZ(il _ _),hZ(by unfold BA;cases l with | nil=>rfl | cons a b=>rw [if_neg(by simp)];rfl),hZ(fun x hx=>hx),ar,by simp [ByteArray.size];omega⟩
  case round=>
   obtain⟨a,c,aa,out,rfl,rfl,aq,HG,HF,HM,hr5,hsz⟩:=hrel;obtain⟨w5,aG⟩:∃ w5,w5=wr:=⟨_,rfl⟩;subst aG;cases aa with
   | nil=>
    have HE:Hid((⟨(lU l).toArray⟩:ByteArray)=out):=by
     unfold Hid;rw [<-HF.out];exact DO out
    simp only [List.length_nil];go_wp2_with fail
    refine bodyPost_ret(v:= .tuple #[.string out, .int .i64 0])(by simp [results,Tryz.results48,go_sem])rfl ?_;exact⟨ic az.out HG.out,Or.inl⟨aH.out,by rw [HE.out]⟩⟩
   | cons t r=>
    have aw:0<(t::r).length:=by simp
    have hI:=aq.out;obtain⟨ao',cp',e',aK,hc⟩:=hI;simp only [Value.slice.injEq,true_and]at e';obtain⟨rfl,rfl⟩:=e';obtain⟨g,o,rfl,hgb,au⟩:=hc 0 aw;simp only [List.getElem_cons_zero,Nat.add_zero]at au;have c0:=ie HG.out _ _ au;have ht:=ax.out t(HM.out t(by simp));have ap:=hZ(zZ t r(.slice(some⟨g,o,none⟩)(t::r).length c)w5((aq.out.pres(ie HG.out)).mono HG.out.size)(by omega));have aE:=B6(t::r);have hn1:1<=lJ(t::r):=by rw [ou];omega
    have aF:=hZ(Cy out.data.toList t r);have ak:((t::r).drop(lJ(t::r))).length=(t::r).length - lJ(t::r):=by simp
    have aJ:=aq;clear hc au;obtain⟨t,rfl⟩:=Int.eq_ofNat_of_zero_le ht.1;have hdts:(nZ t).size<=3:=uD(by omega);have ab:=uP t;generalize av:lJ((t:Int)::r)=n at*;have hdns:(nZ n).size<=3:=uD(by omega);have ad:=uP n;clear av;generalize hL:(t:Int)::r=RL at*;have HLL:=hZ hL;clear hL;have q0:(0:Int)<RL.length:=by omega
    have q1:(n:Int)<=RL.length:=by omega
    have q2:(0:Int)<=(n:Int):=by omega
    have q3:(n:Int)<=c:=by omega
    have q4:RL.length<=c:=aK;have aB:=hZ ak;have am:Hid(∀ (w':World)(af:ByteArray),Hid(w1.grownBy w' none)->af.data.toList=my out.data.toList(kY t n)->af.size<=out.size+8->
      ∃ (a:Option Addr)(c_1:Nat)(aa:List Int)(out_1:ByteArray),Value.slice(if c=n then some { block:=g,off:=o } else some { block:=g,off:=o+n })(RL.length - n)(c - n)= .slice a aa.length c_1/\Value.string af= .string out_1/\Hid(IntsAt w1.heap.size w1(.slice a aa.length c_1)aa)/\Hid(w1.grownBy w' none)/\Hid(BA out_1.data.toList aa=lU l)/\Hid(∀ x∈aa,x∈l)/\aa.length<=500/\out_1.size+8*aa.length<=4000):=by
     intro w' af aC aD hs';have hd:=aB.out;refine⟨_,c - n,RL.drop n,af,by rw [hd],rfl, ?_,aC, ?_, ?_,by rw [hd];omega,by rw [hd];omega⟩
     ·rw [hd];exact hZ(aJ.out.tail n aE _(fun h=>by rw [if_neg(by omega)]))
     ·rw [aD,aF.out];exact HF
     ·exact hZ(fun x hx=>HM.out x(List.mem_of_mem_drop hx))
    by_cases ag:out.toList= []
    ·have aL:out.toList.isEmpty=true:=by rw [ag];rfl
     have ae:out.data.toList= []:=by rw [<-ByteArray.toList_eq];exact ag
     have b1:¬9223372036854775807<out.size+(nZ t).size:=by omega
     have b2:¬9223372036854775807<out.size+(nZ t).size+1:=by omega
     have b3:¬9223372036854775807<out.size+(nZ t).size+1+(nZ n).size:=by omega
     by_cases ai:n=1
     ·have aj:Hid((out++nZ t).data.toList=my out.data.toList(kY t n)):=by
       unfold Hid my kY;rw [if_pos ae,ai];simp [ae,ab]
      have hq:¬(1:Int)<(n:Int):=by omega
      clear ag ae ai ab ad ak;go_wp2_with(first | (go_at_call 68;refine ap.out.mono ?_;rintro e w6⟨rfl,ac⟩;have ah:=hZ(ic HG.out ac);have c6:=ie ac _ _ c0;clear ac) | (go_at_call 78;refine(qr _ _(by omega)).mono ?_;rintro e w7⟨rfl,rfl⟩))
      go_roundw
      case rel=>exact am.out _ _ ah aj.out(by have z1:(⟨#[42]⟩:ByteArray).size=1:=rfl;have z2:(⟨#[32]⟩:ByteArray).size=1:=rfl;simp;omega)
      case measure=>simp [lenOf];omega
     ·have aj:Hid((out++nZ t++⟨#[42]⟩++nZ n).data.toList=my out.data.toList(kY t n)):=by
       unfold Hid my kY;rw [if_pos ae,if_neg(by omega)];simp [ae,ab,ad]
      have hq:(1:Int)<(n:Int):=by omega
      clear ag ae ai ab ad ak;go_wp2_with(first | (go_at_call 68;refine ap.out.mono ?_;rintro e w6⟨rfl,ac⟩;have ah:=hZ(ic HG.out ac);have c6:=ie ac _ _ c0;clear ac) | (go_at_call 78;refine(qr _ _(by omega)).mono ?_;rintro e w7⟨rfl,rfl⟩))
      go_roundw
      case rel=>exact am.out _ _ ah aj.out(by have z1:(⟨#[42]⟩:ByteArray).size=1:=rfl;have z2:(⟨#[32]⟩:ByteArray).size=1:=rfl;simp;omega)
      case measure=>simp [lenOf];omega
    ·have aL:out.toList.isEmpty=false:=by simpa using ag
     have ae:out.data.toList≠ []:=by rw [<-ByteArray.toList_eq];exact ag
     have b0:¬9223372036854775807<out.size+1:=by omega
     have b1:¬9223372036854775807<out.size+1+(nZ t).size:=by omega
     have b2:¬9223372036854775807<out.size+1+(nZ t).size+1:=by omega
     have b3:¬9223372036854775807<out.size+1+(nZ t).size+1+(nZ n).size:=by omega
     by_cases ai:n=1
     ·have aj:Hid((out++⟨#[32]⟩++nZ t).data.toList=my out.data.toList(kY t n)):=by
       unfold Hid my kY;rw [if_neg ae,ai];simp [ab]
      have hq:¬(1:Int)<(n:Int):=by omega
      clear ag ae ai ab ad ak;go_wp2_with(first | (go_at_call 68;refine ap.out.mono ?_;rintro e w6⟨rfl,ac⟩;have ah:=hZ(ic HG.out ac);have c6:=ie ac _ _ c0;clear ac) | (go_at_call 78;refine(qr _ _(by omega)).mono ?_;rintro e w7⟨rfl,rfl⟩))
      go_roundw
      case rel=>exact am.out _ _ ah aj.out(by have z1:(⟨#[42]⟩:ByteArray).size=1:=rfl;have z2:(⟨#[32]⟩:ByteArray).size=1:=rfl;simp;omega)
      case measure=>simp [lenOf];omega
     ·have aj:Hid((out++⟨#[32]⟩++nZ t++⟨#[42]⟩++nZ n).data.toList=my out.data.toList(kY t n)):=by
       unfold Hid my kY;rw [if_neg ae,if_neg(by omega)];simp [ab,ad]
      have hq:(1:Int)<(n:Int):=by omega
      clear ag ae ai ab ad ak;go_wp2_with(first | (go_at_call 68;refine ap.out.mono ?_;rintro e w6⟨rfl,ac⟩;have ah:=hZ(ic HG.out ac);have c6:=ie ac _ _ c0;clear ac) | (go_at_call 78;refine(qr _ _(by omega)).mono ?_;rintro e w7⟨rfl,rfl⟩))
      go_roundw
      case rel=>exact am.out _ _ ah aj.out(by have z1:(⟨#[42]⟩:ByteArray).size=1:=rfl;have z2:(⟨#[32]⟩:ByteArray).size=1:=rfl;simp;omega)
      case measure=>simp [lenOf];omega
end
section
open Go.RowKit
attribute [local go_sem] Go.World.cell?_alloc_some
theorem ms(n:Nat)(h:n<18446744073709551616):IntKind.u64.wrap(n:Int)=(n:Int):=by rw [IntKind.wrap_u64];omega
theorem lP {n:Nat}(h:n<18446744073709551616):(jT n).length<=10:=mR h
theorem mo {l m k:List Nat}(hk:l++m=k)(h:l.length+m.length<=9223372036854775807):Op.stringOp .add(bs l)(bs m)=pure(.string(bs k)):=by rw [<-hk];exact BV l m h
theorem Cb {w:World} {g:Nat} {x0 x1 x2 x3:Nat}(h:w.heap[g]?=some(.cells #[.int .u8(x0:Int), .int .u8(x1:Int), .int .u8(x2:Int), .int .u8(x3:Int)]5(0,0))):(convert 147 9(.slice(some⟨g,0,none⟩)4 4)).run Tryz.prog w= .ok(.string(bs [x0,x1,x2,x3]))w:=
 run_convert_bytes_arg w _ _ Tryz.underlying147 Tryz.underlying5 g 0 4 4 _(by simp)(fun i hi=>by
  have hi':i<4:=by simpa using hi
  rcases(by omega:i=0\/i=1\/i=2\/i=3)with rfl | rfl | rfl | rfl<;>simp [World.cell?,h])_ Tryz.underlying9
theorem Ea {w:World} {n1 n6:Nat} {X:List Nat} {s:List Int} {v:Int × Int × Int} {sv:Value}(hX:X.length<=1000000)(ha:∀ x∈X,x<256)(HI:Hid(IntsAt w.heap.size w sv s))(HV:Hid(i8 s=true))(fO:Hid(kL v=true))
  (H1:Hid(w.cell?⟨n1,1,none⟩=some sv))(H6:Hid(w.cell?⟨n6,0,none⟩=some(.int .i64 v.1)/\w.cell?⟨n6,1,none⟩=some(.int .i64 v.2.1)/\w.cell?⟨n6,2,none⟩=some(.int .i64 v.2.2)))
  {Q:Exit->Act->World->Prop} {c0 c2 c3 c4 c5 c8 c9 e5 g2 ec fi ee gB fw fx g3 gL gM hy gw gh ep ft gq fu ex hB fp gW hn gn fG hp eZ gE gS e9 fv eV ew fP fn eH hh en g4 gg gQ es eh gT fM eD hf el gR fN fL gU fQ e8 eO g5 fg em he hj eF hr eI eU eY ga eR gy fV eL eS f7 hv eX gI hs eA er gr fe fE ev f3 gz ey gV e7 fa gd eB cG bD ck bz dM cY bH dp cP dx bq cL bo bR bd cl ds a4 cA bk aD aS cF bS aJ aN a2 ca a8 b5 bU bh dP cm aG cZ cy cx aY cu cT cr dt aH aX dO bm dI dA b7 cs dQ bF aP aW dn bb dH bT aT be dK di cb bg cI aQ aK bI cd cS de bJ dF bQ cq aU bN ci aI dj ch aM ce cH dC cR:Value}(af:Hid(∀ c a d v w,Q(.panic c)(Act.put a(some d)v)w->Q(.panic c)a w))
  (HQ:Hid(∀ {z0 z1 z4 z5 z6 z7 z8 z9 ek eg gc eC gN fF eM gF g7 gj eq fo fT ho fR ez fK g1 f8 fr gx eQ eW fU hb eb eu fY g6 g9 fq gk hm gZ gC hl fz fX fS gl ei g0 hk eE fs fb go fj gH f9 e3 gJ gY gD f5 fH hz gb hi f6 fc fJ gO fk eP fD hq et gf fy gG hA g8 gX f2 fI ge fC gP ed eJ ff hw gs fh gi hg eK ef ej a3 bG cU dL ba dD br aE dB aZ cM aL co cv dm bA cN cC a9 cO bC bu dh aO bM dd bX bV bx cJ a1 a0 db dl cK cp bj cV cn c7 ct dg cE b6 cg cz cD b4 cw bK dw cf du bp bw bB cW bO bY dN dr dJ dz da aC dy cj dq df b9 cQ a5 bf a7 b8 dv bc cB bZ aF bP bi dk bL cc a6 dR:Value}(w':World),w.grownBy w' none->Q .ret⟨#[z0,z1, .string(bs(X++(mH s++mP v)++leB 4(lF(X++(mH s++mP v))))), .int .i64 0,z4,z5,z6,z7,z8,z9,ek,eg,gc,eC,gN,fF,eM,gF,g7,gj,eq,fo,fT,ho,fR,ez,fK,g1,f8,fr,gx,eQ,eW,fU,hb,eb,eu,fY,g6,g9,fq,gk,hm,gZ,gC,hl,fz,fX,fS,gl,ei,g0,hk,eE,fs,fb,go,fj,gH,f9,e3,gJ,gY,gD,f5,fH,hz,gb,hi,f6,fc,fJ,gO,fk,eP,fD,hq,et,gf,fy,gG,hA,g8,gX,f2,fI,ge,fC,gP,ed,eJ,ff,hw,gs,fh,gi,hg,eK,ef,ej,a3,bG,cU,dL,ba,dD,br,aE,dB,aZ,cM,aL,co,cv,dm,bA,cN,cC,a9,cO,bC,bu,dh,aO,bM,dd,bX,bV,bx,cJ,a1,a0,db,dl,cK,cp,bj,cV,cn,c7,ct,dg,cE,b6,cg,cz,cD,b4,cw,bK,dw,cf,du,bp,bw,bB,cW,bO,bY,dN,dr,dJ,dz,da,aC,dy,cj,dq,df,b9,cQ,a5,bf,a7,b8,dv,bc,cB,bZ,aF,bP,bi,dk,bL,cc,a6,dR], []⟩w')):
  Code.wp Tryz.prog(oU Tryz.f40 18)Q⟨#[c0, .pointer(some⟨n1,0,none⟩),c2,c3,c4,c5, .pointer(some⟨n6,0,none⟩), .string(bs X),c8,c9,e5,g2,ec,fi,ee,gB,fw,fx,g3,gL,gM,hy,gw,gh,ep,ft,gq,fu,ex,hB,fp,gW,hn,gn,fG,hp,eZ,gE,gS,e9,fv,eV,ew,fP,fn,eH,hh,en,g4,gg,gQ,es,eh,gT,fM,eD,hf,el,gR,fN,fL,gU,fQ,e8,eO,g5,fg,em,he,hj,eF,hr,eI,eU,eY,ga,eR,gy,fV,eL,eS,f7,hv,eX,gI,hs,eA,er,gr,fe,fE,ev,f3,gz,ey,gV,e7,fa,gd,eB,cG,bD,ck,bz,dM,cY,bH,dp,cP,dx,bq,cL,bo,bR,bd,cl,ds,a4,cA,bk,aD,aS,cF,bS,aJ,aN,a2,ca,a8,b5,bU,bh,dP,cm,aG,cZ,cy,cx,aY,cu,cT,cr,dt,aH,aX,dO,bm,dI,dA,b7,cs,dQ,bF,aP,aW,dn,bb,dH,bT,aT,be,dK,di,cb,bg,cI,aQ,aK,bI,cd,cS,de,bJ,dF,bQ,cq,aU,bN,ci,aI,dj,ch,aM,ce,cH,dC,cR], []⟩w:=by
 conv=>arg 2;whnf
 have d9:=HV.out;simp only [i8,Bool.and_eq_true,decide_eq_true_eq,List.all_eq_true]at d9;obtain⟨bW,an⟩:=d9;have bl:=hZ an;clear an;obtain⟨so,sc,rfl⟩:=HI.out.form;have c1:=H1.out;have ak:Hid(∀ u,w.grownBy u none->u.cell?⟨n6,0,none⟩=some(.int .i64 v.1)/\u.cell?⟨n6,1,none⟩=some(.int .i64 v.2.1)/\u.cell?⟨n6,2,none⟩=some(.int .i64 v.2.2)):=fun u hu=>⟨ie hu _ _ H6.out.1,ie hu _ _ H6.out.2.1,ie hu _ _ H6.out.2.2⟩
 go_wp2_with fail
 clear c1;go_loopw [11,12,13](fun nv bv lv w'=>∃ (a:Option Addr)(c:Nat)(ab:List Int)(G:List(Int × Int)),nv= .int .i64 G.length/\bv= .string(bs(G.flatMap lV))/\lv= .slice a ab.length c/\Hid(IntsAt w.heap.size w(.slice a ab.length c)ab)/\Hid(w.grownBy w' none)/\Hid(G++grp ab=grp s)/\Hid(∀ x∈ab,x∈s)/\G.length+ab.length<=500/\(G.flatMap lV).length<=20*G.length)(fun _ _ lv _=>lenOf lv)
 case atStart=>exact⟨so,sc,s, [],rfl,rfl,rfl,HI,hZ(il _ _),hZ rfl,hZ(fun x hx=>hx),by simpa using bW,by simp⟩
 case round=>
  obtain⟨a,c,ab,G,rfl,rfl,rfl,dG,HG,dW,HM,hln,hgl⟩:=hrel;obtain⟨w5,dZ⟩:∃ w5,w5=wr:=⟨_,rfl⟩;rw [<-dZ]at HG ⊢;clear dZ;cases ab with
  | nil=>
   simp only [List.length_nil];have ar:=fO.out;simp only [kL,Bool.and_eq_true,decide_eq_true_eq]at ar;obtain⟨v0,v1,v2⟩:=v;simp only at ar ak HQ;obtain⟨k0,rfl⟩:=Int.eq_ofNat_of_zero_le(show 0<=v0 by omega);obtain⟨k1,rfl⟩:=Int.eq_ofNat_of_zero_le ar.1.2.1;obtain⟨k2,rfl⟩:=Int.eq_ofNat_of_zero_le ar.2.1;have h0:k0<=5:=by omega
   have h1:k1<=3:=by omega
   have h2:k2<=500:=by omega
   clear ar;have hGl:G.length<=500:=by omega
   have qG:(G.length:Int)<=500:=by omega
   have q0:(k0:Int)<=5:=by omega
   have q1:(k1:Int)<=3:=by omega
   have q2:(k2:Int)<=500:=by omega
   have eG:=ms G.length(by omega);have e0:=ms k0(by omega);have e1:=ms k1(by omega);have e2:=ms k2(by omega);have fm:=hZ(fun u=>jG G.length u(by omega));have fd:=hZ(fun u=>jG k0 u(by omega));have gm:=hZ(fun u=>jG k1 u(by omega));have gu:=hZ(fun u=>jG k2 u(by omega));have fW:Hid(grp s=G):=by have:=dW.out;simp only [grp,List.append_nil]at this;exact this.symm
   have b0:=lP(n:=G.length)(by omega);have b1:=lP(n:=k0)(by omega);have b2:=lP(n:=k1)(by omega);have b3:=lP(n:=k2)(by omega);obtain⟨Y1,aA⟩:∃ Y,X++jT G.length=Y:=⟨_,rfl⟩;obtain⟨Y2,av⟩:∃ Y,Y1++G.flatMap lV=Y:=⟨_,rfl⟩;obtain⟨Y3,ay⟩:∃ Y,Y2++jT k0=Y:=⟨_,rfl⟩;obtain⟨Y4,ax⟩:∃ Y,Y3++jT k1=Y:=⟨_,rfl⟩;obtain⟨Y5,aB⟩:∃ Y,Y4++jT k2=Y:=⟨_,rfl⟩;have l1:Y1.length<=X.length+10:=by rw [<-aA,List.length_append];omega
   have l2:Y2.length<=X.length+10010:=by rw [<-av,List.length_append];omega
   have l3:Y3.length<=X.length+10020:=by rw [<-ay,List.length_append];omega
   have l4:Y4.length<=X.length+10030:=by rw [<-ax,List.length_append];omega
   have l5:Y5.length<=X.length+10040:=by rw [<-aB,List.length_append];omega
   have y1:=mo aA(by omega);have y2:=mo av(by omega);have y3:=mo ay(by omega);have y4:=mo ax(by omega);have y5:=mo aB(by omega);have HY:Hid(X++(mH s++mP((k0:Int),(k1:Int),(k2:Int)))=Y5):=by
    unfold Hid mH mP js;rw [fW.out,<-aB,<-ax,<-ay,<-av,<-aA];simp
   rw [HY.out]at HQ;have dS:Hid(Y5.length<=2000000):=by unfold Hid;omega
   have dX:Hid(∀ x∈Y5,x<256):=by
    unfold Hid;rw [<-HY.out];intro x hx;rcases List.mem_append.1 hx with hx | hx
    ·exact ha x hx
    ·unfold mH mP at hx;simp only [List.mem_append,List.mem_flatMap]at hx;rcases hx with(hx | ⟨y,_,hx⟩) | hx | hx | hx
     ·exact lm _ x hx
     ·unfold lV at hx;rcases List.mem_append.1 hx with hx | hx<;>exact lm _ x hx
     ·exact lm _ x hx
     ·exact lm _ x hx
     ·exact lm _ x hx
   clear aA av ay ax aB l1 l2 l3 l4 l5 HY;have d0:=ak.out w5.drew(ir HG.out);go_upto_region 26 with fail
   refine iu(fun u=>u.cell?⟨n6,0,none⟩=some(.int .i64(k0:Int))/\u.cell?⟨n6,1,none⟩=some(.int .i64(k1:Int))/\u.cell?⟨n6,2,none⟩=some(.int .i64(k2:Int)))22(by kernel_rfl)(by kernel_rfl)d0 ?_;intro aa;refine hY(i:=0)(v:= ?vv1)rfl(by kernel_rfl)(fun c _ _ h=>af.out c _ _ _ _ h)(Or.inl⟨by kernel_rfl, ?hy1⟩)aa ?rest1
   case hy1=>(rintro u⟨ag,ad,ac⟩;go_simp;try with_reducible rfl)
   simp only [Act.put,List.setIfInBounds_toArray];refine hY(i:=1)(v:= ?vv2)rfl(by kernel_rfl)(fun c _ _ h=>af.out c _ _ _ _ h)(Or.inl⟨by kernel_rfl, ?hy2⟩)aa ?rest2
   case hy2=>(rintro u⟨ag,ad,ac⟩;go_simp;try with_reducible rfl)
   simp only [Act.put];refine hY(i:=2)(v:= ?vv3)rfl(by kernel_rfl)(fun c _ _ h=>af.out c _ _ _ _ h)(Or.inl⟨by kernel_rfl, ?hy3⟩)aa ?rest3
   case hy3=>(rintro u⟨ag,ad,ac⟩;go_simp;try with_reducible rfl)
   simp only [Act.put];refine hY(i:=5)(v:= ?vv4)rfl(by kernel_rfl)(fun c _ _ h=>af.out c _ _ _ _ h)(Or.inl⟨by kernel_rfl, ?hy4⟩)aa ?rest4
   case hy4=>(rintro u⟨ag,ad,ac⟩;go_simp;try with_reducible rfl)
   simp only [Act.put];refine hY(i:=7)(v:= ?vv5)rfl(by kernel_rfl)(fun c _ _ h=>af.out c _ _ _ _ h)(Or.inl⟨by kernel_rfl, ?hy5⟩)aa ?rest5
   case hy5=>(rintro u⟨ag,ad,ac⟩;go_simp;try with_reducible rfl)
   simp only [Act.put];refine hY(i:=8)(v:= ?vv6)rfl(by kernel_rfl)(fun c _ _ h=>af.out c _ _ _ _ h)(Or.inl⟨by kernel_rfl, ?hy6⟩)aa ?rest6
   case hy6=>(rintro u⟨ag,ad,ac⟩;go_simp;try with_reducible rfl)
   simp only [Act.put];refine hY(i:=9)(v:= ?vv7)rfl(by kernel_rfl)(fun c _ _ h=>af.out c _ _ _ _ h)(Or.inl⟨by kernel_rfl, ?hy7⟩)aa ?rest7
   case hy7=>(rintro u⟨ag,ad,ac⟩;go_simp;try with_reducible rfl)
   simp only [Act.put];refine hY(i:=12)(v:= ?vv8)rfl(by kernel_rfl)(fun c _ _ h=>af.out c _ _ _ _ h)(Or.inl⟨by kernel_rfl, ?hy8⟩)aa ?rest8
   case hy8=>(rintro u⟨ag,ad,ac⟩;go_simp;try with_reducible rfl)
   simp only [Act.put];refine hY(i:=13)(v:= ?vv9)rfl(by kernel_rfl)(fun c _ _ h=>af.out c _ _ _ _ h)(Or.inl⟨by kernel_rfl, ?hy9⟩)aa ?rest9
   case hy9=>(rintro u⟨ag,ad,ac⟩;go_simp;try with_reducible rfl)
   simp only [Act.put];refine hY(i:=14)(v:= ?vv10)rfl(by kernel_rfl)(fun c _ _ h=>af.out c _ _ _ _ h)(Or.inl⟨by kernel_rfl, ?hy10⟩)aa ?rest10
   case hy10=>(rintro u⟨ag,ad,ac⟩;go_simp;try with_reducible rfl)
   simp only [Act.put];refine hY(i:=17)(v:= ?vv11)rfl(by kernel_rfl)(fun c _ _ h=>af.out c _ _ _ _ h)(Or.inl⟨by kernel_rfl, ?hy11⟩)aa ?rest11
   case hy11=>(rintro u⟨ag,ad,ac⟩;go_simp;try with_reducible rfl)
   simp only [Act.put];refine hY(i:=18)(v:= ?vv12)rfl(by kernel_rfl)(fun c _ _ h=>af.out c _ _ _ _ h)(Or.inl⟨by kernel_rfl, ?hy12⟩)aa ?rest12
   case hy12=>(rintro u⟨ag,ad,ac⟩;go_simp;try with_reducible rfl)
   simp only [Act.put];refine hY(i:=19)(v:= ?vv13)rfl(by kernel_rfl)(fun c _ _ h=>af.out c _ _ _ _ h)(Or.inl⟨by kernel_rfl, ?hy13⟩)aa ?rest13
   case hy13=>(rintro u⟨ag,ad,ac⟩;go_simp;try with_reducible rfl)
   simp only [Act.put];refine ip(i:=3)rfl(by kernel_rfl)(by kernel_rfl)(by kernel_rfl) ?_;intro K3 d1;have d2:=hZ d1;clear d1;go_simp;refine(fm.out _).mono ?_;rintro e u1⟨rfl,ad⟩;have dU:Hid(w5.grownBy u1 none):=kG ad;have ae:=ak.out u1(ic HG.out dU.out);clear ad;refine d2.out _ _ ae ?_;clear d2;try simp only [Act.put,List.setIfInBounds_toArray]
   refine hY(i:=4)(v:= ?vv14)rfl(by kernel_rfl)(fun c _ _ h=>af.out c _ _ _ _ h)(Or.inl⟨by kernel_rfl, ?hy14⟩)ae ?rest14
   case hy14=>(rintro u⟨ag,ad,ac⟩;go_simp;try with_reducible rfl)
   simp only [Act.put,List.setIfInBounds_toArray];refine hY(i:=6)(v:= ?vv15)rfl(by kernel_rfl)(fun c _ _ h=>af.out c _ _ _ _ h)(Or.inl⟨by kernel_rfl, ?hy15⟩)ae ?rest15
   case hy15=>(rintro u⟨ag,ad,ac⟩;go_simp;try with_reducible rfl)
   simp only [Act.put];refine ip(i:=10)rfl(by kernel_rfl)(by kernel_rfl)(by kernel_rfl) ?_;intro K10 aq;have au:=hZ aq;clear aq;go_simp;refine(fd.out _).mono ?_;rintro e u2⟨rfl,ac⟩;have dT:Hid(w5.grownBy u2 none):=ic dU.out ac;have ai:=ak.out u2(ic HG.out dT.out);clear ac;refine au.out _ _ ai ?_;clear au;try simp only [Act.put,List.setIfInBounds_toArray]
   refine hY(i:=11)(v:= ?vv16)rfl(by kernel_rfl)(fun c _ _ h=>af.out c _ _ _ _ h)(Or.inl⟨by kernel_rfl, ?hy16⟩)ai ?rest16
   case hy16=>(rintro u⟨ag,ad,ac⟩;go_simp;try with_reducible rfl)
   simp only [Act.put,List.setIfInBounds_toArray];refine ip(i:=15)rfl(by kernel_rfl)(by kernel_rfl)(by kernel_rfl) ?_;intro K15 al;have ap:=hZ al;clear al;go_simp;refine(gm.out _).mono ?_;rintro e u3⟨rfl,ea⟩;have d7:Hid(w5.grownBy u3 none):=ic dT.out ea;have ah:=ak.out u3(ic HG.out d7.out);clear ea;refine ap.out _ _ ah ?_;clear ap;try simp only [Act.put,List.setIfInBounds_toArray]
   refine hY(i:=16)(v:= ?vv17)rfl(by kernel_rfl)(fun c _ _ h=>af.out c _ _ _ _ h)(Or.inl⟨by kernel_rfl, ?hy17⟩)ah ?rest17
   case hy17=>(rintro u⟨ag,ad,ac⟩;go_simp;try with_reducible rfl)
   simp only [Act.put,List.setIfInBounds_toArray];refine ip(i:=20)rfl(by kernel_rfl)(by kernel_rfl)(by kernel_rfl) ?_;intro K20 am;have ao:=hZ am;clear am;go_simp;refine(gu.out _).mono ?_;rintro e u4⟨rfl,d3⟩;have d8:Hid(w5.grownBy u4 none):=ic d7.out d3;have aj:=ak.out u4(ic HG.out d8.out);clear d3;refine ao.out _ _ aj ?_;clear ao;try simp only [Act.put,List.setIfInBounds_toArray]
   refine hY(i:=21)(v:= ?vv18)rfl(by kernel_rfl)(fun c _ _ h=>af.out c _ _ _ _ h)(Or.inl⟨by kernel_rfl, ?hy18⟩)aj ?rest18
   case hy18=>(rintro u⟨ag,ad,ac⟩;go_simp;try with_reducible rfl)
   simp only [Act.put,List.setIfInBounds_toArray];refine iE rfl(by kernel_rfl)(by kernel_rfl)(by kernel_rfl) ?_;go_simp;clear aa ae ai ah aj y1 y2 y3 y4 y5 d0;have aV:=hZ(Dc(bs Y5)u4(by rw [sH];have:=dS.out;omega));rw [yu dX.out]at aV;have hcl:lF Y5<4294967296:=by
    unfold lF;exact Nat.xor_lt_two_pow(n:=32)(by omega)(Ai _ _(by omega)dX.out)
   have fA:Hid(leB 4(lF Y5)= [lF Y5 % 256,lF Y5 / 256 % 256,lF Y5 / 65536 % 256,lF Y5 / 16777216]):=by
    unfold Hid;generalize lF Y5=C at hcl ⊢;simp only [leB,List.cons.injEq,and_true,true_and];omega
   generalize lF Y5=C at*;go_wp2_with fail
   refine aV.out.mono ?_;clear aV;rintro e u5⟨rfl,gK⟩;obtain rfl:=gK.symm;have hcv:(convert 147 9(.slice(some⟨u4.heap.size,0,none⟩)4 4)).run Tryz.prog(u4.alloc(.cells #[.int .u8((C:Int) % 256), .int .u8((C:Int)/ 256 % 256), .int .u8((C:Int)/ 65536 % 256), .int .u8((C:Int)/ 16777216)]5))= .ok(.string(bs(leB 4 C)))(u4.alloc(.cells #[.int .u8((C:Int) % 256), .int .u8((C:Int)/ 256 % 256), .int .u8((C:Int)/ 65536 % 256), .int .u8((C:Int)/ 16777216)]5)):=by
    rw [fA.out];exact Cb(x0:=C % 256)(x1:=C / 256 % 256)(x2:=C / 65536 % 256)(x3:=C / 16777216)(heap_alloc_new u4 _)
   have e4:Hid((leB 4 C).length=4):=pw 4 C;obtain⟨Y6,dc⟩:∃ Y,Y5++leB 4 C=Y:=⟨_,rfl⟩;have y6:=mo dc(by have:=dS.out;have:=e4.out;omega);rw [dc]at HQ;clear dc;go_wp2_with fail
   exact HQ.out _(ij(ic HG.out d8.out))
  | cons t r=>
   have aR:0<(t::r).length:=by simp
   have hI:=dG.out;obtain⟨ao',cp',e',eo,hc⟩:=hI;simp only [Value.slice.injEq,true_and]at e';obtain⟨rfl,rfl⟩:=e';obtain⟨g,o,rfl,hgb,bE⟩:=hc 0 aR;simp only [List.getElem_cons_zero,Nat.add_zero]at bE;have e6:=ie HG.out _ _ bE;have ht:=bl.out t(HM.out t(by simp));have f4:=hZ(zZ t r(.slice(some⟨g,o,none⟩)(t::r).length c)w5((dG.out.pres(ie HG.out)).mono HG.out.size)(by omega));have fZ:=B6(t::r);have hn1:1<=lJ(t::r):=by rw [ou];omega
   have dY:((t::r).drop(lJ(t::r))).length=(t::r).length - lJ(t::r):=by simp
   have gA:=hZ(zY t r);clear hc bE;obtain⟨t,rfl⟩:=Int.eq_ofNat_of_zero_le ht.1;generalize cX:lJ((t:Int)::r)=n at*;clear cX;generalize hL:(t:Int)::r=RL at*;clear hL;have q0:(0:Int)<RL.length:=by omega
   have q1:(n:Int)<=RL.length:=by omega
   have q2:(0:Int)<=(n:Int):=by omega
   have q3:(n:Int)<=c:=by omega
   have q4:RL.length<=c:=eo;have q5:(t:Int)<=63:=ht.2;have q6:(n:Int)<=500:=by omega
   have q7:(G.length:Int)<=500:=by omega
   have dV:=hZ(fun u=>jG t u(by omega));have d4:=hZ(fun u=>jG n u(by omega));have eT:=ms t(by omega);have eN:=ms n(by omega);have bt:=lP(n:=t)(by omega);have bn:=lP(n:=n)(by omega);obtain⟨Z1,aw⟩:∃ Y,G.flatMap lV++jT t=Y:=⟨_,rfl⟩;obtain⟨Z2,az⟩:∃ Y,Z1++jT n=Y:=⟨_,rfl⟩;have l1:Z1.length<=20*G.length+10:=by rw [<-aw,List.length_append];omega
   have l2:Z2.length<=20*G.length+20:=by rw [<-az,List.length_append];omega
   have z1:=mo aw(by omega);have z2:=mo az(by omega);have HZ:Hid((G++ [((t:Int),(n:Int))]).flatMap lV=Z2):=by
    unfold Hid;rw [<-az,<-aw];simp [lV,js]
   have gp:=hZ dY;have gt:Hid(∀ (w':World),Hid(w.grownBy w' none)->∃ (a:Option Addr)(c_1:Nat)(ab:List Int)(G':List(Int × Int)),Value.int .i64((G.length:Int)+1)= .int .i64 G'.length/\Value.string(bs Z2)= .string(bs(G'.flatMap lV))/\Value.slice(if c=n then some { block:=g,off:=o } else some { block:=g,off:=o+n })(RL.length - n)(c - n)= .slice a ab.length c_1/\Hid(IntsAt w.heap.size w(.slice a ab.length c_1)ab)/\Hid(w.grownBy w' none)/\Hid(G'++grp ab=grp s)/\Hid(∀ x∈ab,x∈s)/\G'.length+ab.length<=500/\(G'.flatMap lV).length<=20*G'.length):=by
    intro w' gv;have hd:=gp.out;refine⟨_,c - n,RL.drop n,G++ [((t:Int),(n:Int))],by simp,by rw [HZ.out],by rw [hd], ?_,gv, ?_, ?_,by rw [hd,List.length_append];simp;omega,by rw [HZ.out,List.length_append];simp;omega⟩
    ·rw [hd];exact hZ(dG.out.tail n fZ _(fun h=>by rw [if_neg(by omega)]))
    ·unfold Hid;rw [<-dW.out,gA.out];simp
    ·exact hZ(fun x hx=>HM.out x(List.mem_of_mem_drop hx))
   clear aw az l1 l2 dY HZ;go_upto_region 23 with(go_at_call 68;refine f4.out.mono ?_;rintro e w6⟨rfl,dE⟩;have f0:=hZ(ic HG.out dE);have c6:=ie dE _ _ e6;clear dE)
   go_upto_region 24 with(go_at_call 66;first | (refine(dV.out _).mono ?_;clear dV;rintro e w7⟨rfl,d6⟩;have fl:=hZ(ic f0.out d6);clear d6) | (refine(d4.out _).mono ?_;clear d4;rintro e w8⟨rfl,d5⟩;have fB:=hZ(ic fl.out d5);clear d5))
   go_wp2_with fail
   go_roundw
   case rel=>exact gt.out _ fB
   case measure=>simp [lenOf];omega
end
section
open Go.RowKit
attribute [local go_sem] Go.World.cell?_alloc_some
theorem EW(i:Ins):∀ x∈mz i,x<256:=by
 intro x hx;unfold mz js at hx;simp only [List.mem_append]at hx;rcases hx with hx | hx | hx | hx<;>exact lm _ x hx
theorem xO(c:List Ins):∀ x∈jQ c,x<256:=by
 intro x hx;unfold jQ js at hx;rcases List.mem_append.1 hx with hx | hx
 ·exact lm _ x hx
 ·obtain⟨i,_,hi⟩:=List.mem_flatMap.1 hx;exact EW i x hi
theorem DU {w:World} {n1 n6:Nat} {X:List Nat} {p:List(List Ins)} {s:List Int} {v:Int × Int × Int} {tv sv:Value}(HX:Hid([82,82,1]++jT p.length=X))(HP:Hid(ProgAt w(.agg #[tv])p))(hpl:p.length<=4)(go:Hid(∀ c∈p,c.length<=16/\∀ i∈c,kI i))
  (HI:Hid(IntsAt w.heap.size w sv s))(HV:Hid(i8 s=true))(gP:Hid(kL v=true))(H0:Hid(w.cell?⟨n1,0,none⟩=some tv))(H1:Hid(w.cell?⟨n1,1,none⟩=some sv))(H6:Hid(w.cell?⟨n6,0,none⟩=some(.int .i64 v.1)/\w.cell?⟨n6,1,none⟩=some(.int .i64 v.2.1)/\w.cell?⟨n6,2,none⟩=some(.int .i64 v.2.2)))
  {Q:Exit->Act->World->Prop} {c0 c2 c3 c4 c5 c7 c8 c9 gr hn fT gy fU g7 gE gF hp ha hb hL g4 g0 f2 gB g2 gC f8 hM gA hm hG g1 gK hH gp g8 hf gu gD gl f7 gQ gz ge hE f0 hs gZ hd f4 fX hi gN gc hD fY he gO gM hj gR gt gh hv gx fZ hC hF gd hI gf gk gn gW gi g5 gS gg gj gU hK gm g9 hJ ga f3 g3 gw gH f6 gT g6 f9 hl gs gv gY gb dt cM dh cK dU dB cO dJ dx dM cJ dw cI cU cC di dK cz dr cG ch cs ds cV cl cp cy db cA cZ cX cF dW dj ci dC dq dp cx dn dA dl dL cj cw dV cH dS dO da dm dX cN cq cv dI cB dR cW ct cD dT dG dc cE dv cr cm cQ dd dz dE cR dQ cT dk cu cS dg ck dH df cn de du dP dy:Value}(ac:Hid(∀ c a d v w,Q(.panic c)(Act.put a(some d)v)w->Q(.panic c)a w))
  (HQ:Hid(∀ {z0 z1 z4 z5 z6 z7 z8 z9 d7 d2 e5 ed fo eI ei fk fB e9 d9 ez eR fO eO ec eN fz eY eC ff el em eS fG dZ eb eU fA fD eB fa fN fw fi fL eF eT eQ fb d4 fx fK ee eD ep fc ev fm eZ eo fn fv fj eW eJ fR e4 fJ eX eq eM fq ew ej eH fP ea e7 eE fl fS fC fu eV eK e6 eG fr d0 ef er fQ fe et e8 fH eg d1 d6 ay aT bz b6 aD bY aM ap bX av bt ar be bh bN aQ bu bm aC bv aR aN bJ au aW bG a1 aZ aP bq ax aw bF bM br bf aJ bA bd bD bg bI bo a5 ba bj bn a4 bi aU bU a9 bS aK aO aS bC aX a2 b7 bQ b5 bW bE an bV bc bP bH a7 bw az aH aB a6 bT aF bk a3 aq aY aI bL aV a8 aA b8:Value}(w':World),w.grownBy w' none->Q .ret⟨#[z0,z1, .string(bs((X++p.flatMap jQ)++(mH s++mP v)++leB 4(lF((X++p.flatMap jQ)++(mH s++mP v))))), .int .i64 0,z4,z5,z6,z7,z8,z9,d7,d2,e5,ed,fo,eI,ei,fk,fB,e9,d9,ez,eR,fO,eO,ec,eN,fz,eY,eC,ff,el,em,eS,fG,dZ,eb,eU,fA,fD,eB,fa,fN,fw,fi,fL,eF,eT,eQ,fb,d4,fx,fK,ee,eD,ep,fc,ev,fm,eZ,eo,fn,fv,fj,eW,eJ,fR,e4,fJ,eX,eq,eM,fq,ew,ej,eH,fP,ea,e7,eE,fl,fS,fC,fu,eV,eK,e6,eG,fr,d0,ef,er,fQ,fe,et,e8,fH,eg,d1,d6,ay,aT,bz,b6,aD,bY,aM,ap,bX,av,bt,ar,be,bh,bN,aQ,bu,bm,aC,bv,aR,aN,bJ,au,aW,bG,a1,aZ,aP,bq,ax,aw,bF,bM,br,bf,aJ,bA,bd,bD,bg,bI,bo,a5,ba,bj,bn,a4,bi,aU,bU,a9,bS,aK,aO,aS,bC,aX,a2,b7,bQ,b5,bW,bE,an,bV,bc,bP,bH,a7,bw,az,aH,aB,a6,bT,aF,bk,a3,aq,aY,aI,bL,aV,a8,aA,b8], []⟩w')):
  Code.wp Tryz.prog(oU Tryz.f40 8)Q⟨#[c0, .pointer(some⟨n1,0,none⟩),c2,c3,c4,c5, .pointer(some⟨n6,0,none⟩),c7,c8,c9,gr,hn,fT,gy,fU,g7,gE,gF,hp,ha,hb,hL,g4,g0,f2,gB,g2,gC,f8,hM,gA,hm,hG,g1,gK,hH,gp,g8,hf,gu,gD,gl,f7,gQ,gz,ge,hE,f0,hs,gZ,hd,f4,fX,hi,gN,gc,hD,fY,he,gO,gM,hj,gR,gt,gh,hv,gx,fZ,hC,hF,gd,hI,gf,gk,gn,gW,gi,g5,gS,gg,gj,gU,hK,gm,g9,hJ,ga,f3,g3,gw,gH,f6,gT,g6,f9,hl,gs,gv,gY,gb,dt,cM,dh,cK,dU,dB,cO,dJ,dx,dM,cJ,dw,cI,cU,cC,di,dK,cz,dr,cG,ch,cs,ds,cV,cl,cp,cy,db,cA,cZ,cX,cF,dW,dj,ci,dC,dq,dp,cx,dn,dA,dl,dL,cj,cw,dV,cH,dS,dO,da,dm,dX,cN,cq,cv,dI,cB,dR,cW,ct,cD,dT,dG,dc,cE,dv,cr,cm,cQ,dd,dz,dE,cR,dQ,cT,dk,cu,cS,dg,ck,dH,df,cn,de,du,dP,dy], []⟩w:=by
 conv=>arg 2;whnf
 obtain⟨ta,tc,dY⟩:=HP.out.form;simp only [Value.agg.injEq,Array.mk.injEq,List.cons.injEq,and_true]at dY;subst dY;have qp:(p.length:Int)<=4:=by omega
 have bp:=lP(n:=p.length)(by omega);have hX:X.length<=20:=by rw [<-HX.out,List.length_append];simp;omega
 have hB:∀ x∈X,x<256:=by
  rw [<-HX.out];intro x hx;rcases List.mem_append.1 hx with hx | hx
  ·simp only [List.mem_cons,List.not_mem_nil,or_false]at hx;omega
  ·exact lm _ x hx
 have ex:=hZ(fun u=>jG p.length u(by omega));have eP:=ms p.length(by omega);have cP:Op.stringOp .add(⟨#[82,82,1]⟩:ByteArray)(bs(jT p.length))=pure(.string(bs X)):=by
  have h3:(⟨#[82,82,1]⟩:ByteArray)=bs [82,82,1]:=by decide+kernel
  rw [h3];exact mo HX.out(by simp;omega)
 have hq:=H0.out;go_wp2_with(go_at_call 66;refine(ex.out _).mono ?_;clear ex;rintro e w4⟨rfl,bR⟩;have fg:=hZ bR;clear bR)
 clear cP eP hq;go_loopw [7,8](fun xv iv w'=>∃ (t:Nat)(Z:List Nat),t<=p.length/\iv= .int .i64 t/\xv= .string(bs Z)/\Hid(Z=X++(p.take t).flatMap jQ)/\Z.length<=20+650*t/\Hid(w.grownBy w' none))(fun _ iv _=>p.length - (intOf iv).toNat)
 case atStart=>exact⟨0,X,Nat.zero_le _,rfl,rfl,hZ(by simp),by omega,fg⟩
 case round=>
  clear fg;obtain⟨t,Z,ht,rfl,rfl,HZ,hzl,HG⟩:=hrel;obtain⟨w5,es⟩:∃ w5,w5=wr:=⟨_,rfl⟩;rw [<-es]at HG ⊢;clear es;have k0:=ie HG.out _ _ H0.out;by_cases cL:t<p.length
  ·have t0:(0:Int)<=(t:Int):=by omega
   have t1:(t:Int)<p.length:=by omega
   obtain⟨pg,po,ho,rv,ft,fI⟩:=(show ∃ g o,ta=some⟨g,o,none⟩/\∃ rv,w.cell?⟨g,o+t,none⟩=some rv/\CodeAt w rv p[t]from by
    obtain⟨ao',cap',e,hh⟩:=HP.out;simp only [Value.agg.injEq,Array.mk.injEq,List.cons.injEq,Value.slice.injEq,and_true,true_and]at e;obtain⟨g,o,e1,rv,e2,e3⟩:=hh t cL;exact⟨g,o,by rw [e.1];exact e1,rv,e2,e3⟩)
   subst ho;obtain⟨hcl,ek⟩:=go.out p[t](List.getElem_mem cL);have fW:Hid((p.take(t+1)).flatMap jQ=(p.take t).flatMap jQ++jQ p[t]):=by
    unfold Hid;rw [List.take_succ_eq_append_getElem cL,List.flatMap_append,List.flatMap_cons,List.flatMap_nil,List.append_nil]
   generalize p[t]=c at*;have gL:=hZ ek;have c6:=fI;obtain⟨ca,cc,rfl,am⟩:=fI;have gJ:=hZ am;have r5:=ie HG.out _ _ ft;have qc:(c.length:Int)<=16:=by omega
   have ey:=hZ(fun u=>jG c.length u(by omega));have eL:=ms c.length(by omega);have bl:=lP(n:=c.length)(by omega);obtain⟨Z1,cd⟩:∃ Y,Z++jT c.length=Y:=⟨_,rfl⟩;have l1:Z1.length<=Z.length+10:=by rw [<-cd,List.length_append];omega
   have z1:=mo cd(by omega);have gI:=hZ cd;have hw:Hid(Z1.length<=30+650*t):=by unfold Hid;omega
   clear am c6 ft ek cd;go_upto_region 14 with(go_at_call 66;refine(ey.out _).mono ?_;clear ey;rintro e w6⟨rfl,fE⟩;have al:=hZ(ic HG.out fE);clear fE)
   clear k0 r5 z1 eL;go_wp2_with fail
   go_loopw [7,10](fun xv kv w'=>∃ (k:Nat)(V:List Nat),k<=c.length/\kv= .int .i64 k/\xv= .string(bs V)/\Hid(V=Z1++(c.take k).flatMap mz)/\V.length<=Z1.length+40*k/\Hid(w.grownBy w' none))(fun _ kv _=>c.length - (intOf kv).toNat)
   case atStart=>exact⟨0,Z1,Nat.zero_le _,rfl,rfl,hZ(by simp),by omega,al⟩
   case round=>
    clear al;obtain⟨k,V,hk,rfl,rfl,d8,hvl,al⟩:=hrel;obtain⟨w6,fM⟩:∃ w6,w6=wr:=⟨_,rfl⟩;rw [<-fM]at al ⊢;clear fM;by_cases dN:k<c.length
    ·have t2:(0:Int)<=(k:Int):=by omega
     have t3:(k:Int)<c.length:=by omega
     obtain⟨cg,co,rfl,x0,x1,x2,x3⟩:=gJ.out k dN;obtain⟨s0,s1,s2,s3⟩:=gL.out c[k](List.getElem_mem dN);have en:Hid((c.take(k+1)).flatMap mz=(c.take k).flatMap mz++mz c[k]):=by
      unfold Hid;rw [List.take_succ_eq_append_getElem dN,List.flatMap_append,List.flatMap_cons,List.flatMap_nil,List.append_nil]
     have hr:Hid(kI c[k]):=⟨s0,s1,s2,s3⟩;generalize c[k]=ii at*;obtain⟨oo,aa,bb,nn⟩:=ii;simp only at s0 s1 s2 s3 x0 x1 x2 x3;obtain⟨o0,rfl⟩:=Int.eq_ofNat_of_zero_le s0.1;obtain⟨a0,rfl⟩:=Int.eq_ofNat_of_zero_le s1.1;obtain⟨b0,rfl⟩:=Int.eq_ofNat_of_zero_le s2.1;have q0:(o0:Int)<=11:=s0.2;have q1:(a0:Int)<=3:=s1.2;have q2:(b0:Int)<=3:=s2.2;have bO:Hid(∀ u,w.grownBy u none->u.cell?⟨cg,co+k*4,none⟩=some(.int .i64(o0:Int))/\u.cell?⟨cg,co+k*4+1,none⟩=some(.int .i64(a0:Int))/\u.cell?⟨cg,co+k*4+2,none⟩=some(.int .i64(b0:Int))/\u.cell?⟨cg,co+k*4+3,none⟩=some(.int .i64 nn)):=fun u hu=>⟨ie hu _ _ x0,ie hu _ _ x1,ie hu _ _ x2,ie hu _ _ x3⟩
     have hz:zig nn<18446744073709551616:=by unfold zig;split<;>omega
     have f5:=hZ(fun u=>jG o0 u(by omega));have gV:=hZ(fun u=>jG a0 u(by omega));have hy:=hZ(fun u=>jG b0 u(by omega));have hg:=hZ(fun u=>BD nn u s3.1 s3.2);have gq:=hZ(fun u=>jG(zig nn)u hz);have e0:=ms o0(by omega);have e1:=ms a0(by omega);have e2:=ms b0(by omega);have b1:=lP(n:=o0)(by omega);have b2:=lP(n:=a0)(by omega);have b3:=lP(n:=b0)(by omega);have b4:=lP hz;obtain⟨V1,b9⟩:∃ Y,V++jT o0=Y:=⟨_,rfl⟩;obtain⟨V2,cb⟩:∃ Y,V1++jT a0=Y:=⟨_,rfl⟩;obtain⟨V3,ce⟩:∃ Y,V2++jT b0=Y:=⟨_,rfl⟩;obtain⟨V4,cf⟩:∃ Y,V3++jT(zig nn)=Y:=⟨_,rfl⟩;have l1':V1.length<=V.length+10:=by rw [<-b9,List.length_append];omega
     have l2':V2.length<=V.length+20:=by rw [<-cb,List.length_append];omega
     have l3':V3.length<=V.length+30:=by rw [<-ce,List.length_append];omega
     have l4':V4.length<=V.length+40:=by rw [<-cf,List.length_append];omega
     have y1:=mo b9(by omega);have y2:=mo cb(by omega);have y3:=mo ce(by omega);have y4:=mo cf(by omega);have fV:Hid(V4=Z1++(c.take(k+1)).flatMap mz):=by
      unfold Hid;rw [en.out,<-cf,<-ce,<-cb,<-b9,d8.out];simp [mz,js]
     have eA:=bO.out w6.drew(ir al.out);generalize zig nn=zn at*;clear b9 cb ce cf x0 x1 x2 x3 s0 s1 s2 s3 hz en hr;go_upto_region 17 with fail
     refine iu(fun u=>u.cell?⟨cg,co+k*4,none⟩=some(.int .i64(o0:Int))/\u.cell?⟨cg,co+k*4+1,none⟩=some(.int .i64(a0:Int))/\u.cell?⟨cg,co+k*4+2,none⟩=some(.int .i64(b0:Int))/\u.cell?⟨cg,co+k*4+3,none⟩=some(.int .i64 nn))33(by kernel_rfl)(by kernel_rfl)eA ?_;intro ab;refine hY(i:=0)(v:= ?vv1)rfl(by kernel_rfl)(fun c _ _ h=>ac.out c _ _ _ _ h)(Or.inl⟨by kernel_rfl, ?hy1⟩)ab ?rest1
     case hy1=>(rintro u⟨af,ae,ad,ag⟩;go_simp;try with_reducible rfl)
     simp only [Act.put,List.setIfInBounds_toArray];refine hY(i:=1)(v:= ?vv2)rfl(by kernel_rfl)(fun c _ _ h=>ac.out c _ _ _ _ h)(Or.inl⟨by kernel_rfl, ?hy2⟩)ab ?rest2
     case hy2=>(rintro u⟨af,ae,ad,ag⟩;go_simp;try with_reducible rfl)
     simp only [Act.put];refine hY(i:=2)(v:= ?vv3)rfl(by kernel_rfl)(fun c _ _ h=>ac.out c _ _ _ _ h)(Or.inl⟨by kernel_rfl, ?hy3⟩)ab ?rest3
     case hy3=>(rintro u⟨af,ae,ad,ag⟩;go_simp;try with_reducible rfl)
     simp only [Act.put];refine hY(i:=3)(v:= ?vv4)rfl(by kernel_rfl)(fun c _ _ h=>ac.out c _ _ _ _ h)(Or.inl⟨by kernel_rfl, ?hy4⟩)ab ?rest4
     case hy4=>(rintro u⟨af,ae,ad,ag⟩;go_simp;try with_reducible rfl)
     simp only [Act.put];refine hY(i:=4)(v:= ?vv5)rfl(by kernel_rfl)(fun c _ _ h=>ac.out c _ _ _ _ h)(Or.inl⟨by kernel_rfl, ?hy5⟩)ab ?rest5
     case hy5=>(rintro u⟨af,ae,ad,ag⟩;go_simp;try with_reducible rfl)
     simp only [Act.put];refine hY(i:=5)(v:= ?vv6)rfl(by kernel_rfl)(fun c _ _ h=>ac.out c _ _ _ _ h)(Or.inl⟨by kernel_rfl, ?hy6⟩)ab ?rest6
     case hy6=>(rintro u⟨af,ae,ad,ag⟩;go_simp;try with_reducible rfl)
     simp only [Act.put];refine hY(i:=6)(v:= ?vv7)rfl(by kernel_rfl)(fun c _ _ h=>ac.out c _ _ _ _ h)(Or.inl⟨by kernel_rfl, ?hy7⟩)ab ?rest7
     case hy7=>(rintro u⟨af,ae,ad,ag⟩;go_simp;try with_reducible rfl)
     simp only [Act.put];refine hY(i:=9)(v:= ?vv8)rfl(by kernel_rfl)(fun c _ _ h=>ac.out c _ _ _ _ h)(Or.inl⟨by kernel_rfl, ?hy8⟩)ab ?rest8
     case hy8=>(rintro u⟨af,ae,ad,ag⟩;go_simp;try with_reducible rfl)
     simp only [Act.put];refine hY(i:=10)(v:= ?vv9)rfl(by kernel_rfl)(fun c _ _ h=>ac.out c _ _ _ _ h)(Or.inl⟨by kernel_rfl, ?hy9⟩)ab ?rest9
     case hy9=>(rintro u⟨af,ae,ad,ag⟩;go_simp;try with_reducible rfl)
     simp only [Act.put];refine hY(i:=11)(v:= ?vv10)rfl(by kernel_rfl)(fun c _ _ h=>ac.out c _ _ _ _ h)(Or.inl⟨by kernel_rfl, ?hy10⟩)ab ?rest10
     case hy10=>(rintro u⟨af,ae,ad,ag⟩;go_simp;try with_reducible rfl)
     simp only [Act.put];refine hY(i:=12)(v:= ?vv11)rfl(by kernel_rfl)(fun c _ _ h=>ac.out c _ _ _ _ h)(Or.inl⟨by kernel_rfl, ?hy11⟩)ab ?rest11
     case hy11=>(rintro u⟨af,ae,ad,ag⟩;go_simp;try with_reducible rfl)
     simp only [Act.put];refine hY(i:=13)(v:= ?vv12)rfl(by kernel_rfl)(fun c _ _ h=>ac.out c _ _ _ _ h)(Or.inl⟨by kernel_rfl, ?hy12⟩)ab ?rest12
     case hy12=>(rintro u⟨af,ae,ad,ag⟩;go_simp;try with_reducible rfl)
     simp only [Act.put];refine hY(i:=14)(v:= ?vv13)rfl(by kernel_rfl)(fun c _ _ h=>ac.out c _ _ _ _ h)(Or.inl⟨by kernel_rfl, ?hy13⟩)ab ?rest13
     case hy13=>(rintro u⟨af,ae,ad,ag⟩;go_simp;try with_reducible rfl)
     simp only [Act.put];refine hY(i:=17)(v:= ?vv14)rfl(by kernel_rfl)(fun c _ _ h=>ac.out c _ _ _ _ h)(Or.inl⟨by kernel_rfl, ?hy14⟩)ab ?rest14
     case hy14=>(rintro u⟨af,ae,ad,ag⟩;go_simp;try with_reducible rfl)
     simp only [Act.put];refine hY(i:=18)(v:= ?vv15)rfl(by kernel_rfl)(fun c _ _ h=>ac.out c _ _ _ _ h)(Or.inl⟨by kernel_rfl, ?hy15⟩)ab ?rest15
     case hy15=>(rintro u⟨af,ae,ad,ag⟩;go_simp;try with_reducible rfl)
     simp only [Act.put];refine hY(i:=19)(v:= ?vv16)rfl(by kernel_rfl)(fun c _ _ h=>ac.out c _ _ _ _ h)(Or.inl⟨by kernel_rfl, ?hy16⟩)ab ?rest16
     case hy16=>(rintro u⟨af,ae,ad,ag⟩;go_simp;try with_reducible rfl)
     simp only [Act.put];refine hY(i:=20)(v:= ?vv17)rfl(by kernel_rfl)(fun c _ _ h=>ac.out c _ _ _ _ h)(Or.inl⟨by kernel_rfl, ?hy17⟩)ab ?rest17
     case hy17=>(rintro u⟨af,ae,ad,ag⟩;go_simp;try with_reducible rfl)
     simp only [Act.put];refine hY(i:=21)(v:= ?vv18)rfl(by kernel_rfl)(fun c _ _ h=>ac.out c _ _ _ _ h)(Or.inl⟨by kernel_rfl, ?hy18⟩)ab ?rest18
     case hy18=>(rintro u⟨af,ae,ad,ag⟩;go_simp;try with_reducible rfl)
     simp only [Act.put];refine hY(i:=22)(v:= ?vv19)rfl(by kernel_rfl)(fun c _ _ h=>ac.out c _ _ _ _ h)(Or.inl⟨by kernel_rfl, ?hy19⟩)ab ?rest19
     case hy19=>(rintro u⟨af,ae,ad,ag⟩;go_simp;try with_reducible rfl)
     simp only [Act.put];refine hY(i:=25)(v:= ?vv20)rfl(by kernel_rfl)(fun c _ _ h=>ac.out c _ _ _ _ h)(Or.inl⟨by kernel_rfl, ?hy20⟩)ab ?rest20
     case hy20=>(rintro u⟨af,ae,ad,ag⟩;go_simp;try with_reducible rfl)
     simp only [Act.put];refine hY(i:=26)(v:= ?vv21)rfl(by kernel_rfl)(fun c _ _ h=>ac.out c _ _ _ _ h)(Or.inl⟨by kernel_rfl, ?hy21⟩)ab ?rest21
     case hy21=>(rintro u⟨af,ae,ad,ag⟩;go_simp;try with_reducible rfl)
     simp only [Act.put];refine hY(i:=27)(v:= ?vv22)rfl(by kernel_rfl)(fun c _ _ h=>ac.out c _ _ _ _ h)(Or.inl⟨by kernel_rfl, ?hy22⟩)ab ?rest22
     case hy22=>(rintro u⟨af,ae,ad,ag⟩;go_simp;try with_reducible rfl)
     simp only [Act.put];refine hY(i:=28)(v:= ?vv23)rfl(by kernel_rfl)(fun c _ _ h=>ac.out c _ _ _ _ h)(Or.inl⟨by kernel_rfl, ?hy23⟩)ab ?rest23
     case hy23=>(rintro u⟨af,ae,ad,ag⟩;go_simp;try with_reducible rfl)
     simp only [Act.put];refine hY(i:=29)(v:= ?vv24)rfl(by kernel_rfl)(fun c _ _ h=>ac.out c _ _ _ _ h)(Or.inl⟨by kernel_rfl, ?hy24⟩)ab ?rest24
     case hy24=>(rintro u⟨af,ae,ad,ag⟩;go_simp;try with_reducible rfl)
     simp only [Act.put];refine ip(i:=7)rfl(by kernel_rfl)(by kernel_rfl)(by kernel_rfl) ?_;intro K7 eh;have fd:=hZ eh;clear eh;go_simp;refine(f5.out _).mono ?_;rintro e u1⟨rfl,fh⟩;have d5:Hid(w6.grownBy u1 none):=kG fh;have ai:=bO.out u1(ic al.out d5.out);clear fh;refine fd.out _ _ ai ?_;clear fd;try simp only [Act.put,List.setIfInBounds_toArray]
     refine hY(i:=8)(v:= ?vv25)rfl(by kernel_rfl)(fun c _ _ h=>ac.out c _ _ _ _ h)(Or.inl⟨by kernel_rfl, ?hy25⟩)ai ?rest25
     case hy25=>(rintro u⟨af,ae,ad,ag⟩;go_simp;try with_reducible rfl)
     simp only [Act.put,List.setIfInBounds_toArray];refine ip(i:=15)rfl(by kernel_rfl)(by kernel_rfl)(by kernel_rfl) ?_;intro K15 aG;have bK:=hZ aG;clear aG;go_simp;refine(gV.out _).mono ?_;rintro e u2⟨rfl,eu⟩;have d3:Hid(w6.grownBy u2 none):=ic d5.out eu;have aj:=bO.out u2(ic al.out d3.out);clear eu;refine bK.out _ _ aj ?_;clear bK;try simp only [Act.put,List.setIfInBounds_toArray]
     refine hY(i:=16)(v:= ?vv26)rfl(by kernel_rfl)(fun c _ _ h=>ac.out c _ _ _ _ h)(Or.inl⟨by kernel_rfl, ?hy26⟩)aj ?rest26
     case hy26=>(rintro u⟨af,ae,ad,ag⟩;go_simp;try with_reducible rfl)
     simp only [Act.put,List.setIfInBounds_toArray];refine ip(i:=23)rfl(by kernel_rfl)(by kernel_rfl)(by kernel_rfl) ?_;intro K23 bZ;have bB:=hZ bZ;clear bZ;go_simp;refine(hy.out _).mono ?_;rintro e u3⟨rfl,fF⟩;have fs:Hid(w6.grownBy u3 none):=ic d3.out fF;have ah:=bO.out u3(ic al.out fs.out);clear fF;refine bB.out _ _ ah ?_;clear bB;try simp only [Act.put,List.setIfInBounds_toArray]
     refine hY(i:=24)(v:= ?vv27)rfl(by kernel_rfl)(fun c _ _ h=>ac.out c _ _ _ _ h)(Or.inl⟨by kernel_rfl, ?hy27⟩)ah ?rest27
     case hy27=>(rintro u⟨af,ae,ad,ag⟩;go_simp;try with_reducible rfl)
     simp only [Act.put,List.setIfInBounds_toArray];refine ip(i:=30)rfl(by kernel_rfl)(by kernel_rfl)(by kernel_rfl) ?_;intro K30 aE;have ao:=hZ aE;clear aE;go_simp;refine(hg.out _).mono ?_;rintro e u3b⟨rfl,cY⟩;obtain rfl:=cY.symm;refine ao.out _ _ ah ?_;clear ao;try simp only [Act.put,List.setIfInBounds_toArray]
     refine ip(i:=31)rfl(by kernel_rfl)(by kernel_rfl)(by kernel_rfl) ?_;intro K31 aL;have bx:=hZ aL;clear aL;go_simp;refine(gq.out _).mono ?_;rintro e u4⟨rfl,bR⟩;have fy:Hid(w6.grownBy u4 none):=ic fs.out bR;have ak:=bO.out u4(ic al.out fy.out);clear bR;refine bx.out _ _ ak ?_;clear bx;try simp only [Act.put,List.setIfInBounds_toArray]
     refine hY(i:=32)(v:= ?vv28)rfl(by kernel_rfl)(fun c _ _ h=>ac.out c _ _ _ _ h)(Or.inl⟨by kernel_rfl, ?hy28⟩)ak ?rest28
     case hy28=>(rintro u⟨af,ae,ad,ag⟩;go_simp;try with_reducible rfl)
     simp only [Act.put,List.setIfInBounds_toArray];refine iE rfl(by kernel_rfl)(by kernel_rfl)(by kernel_rfl) ?_;go_simp;clear ab ai aj ah ak y1 y2 y3 y4 eA;go_wp2_with fail
     go_roundw
     case rel=>exact⟨k+1,V4,by omega,by go_num,rfl,fV,by omega,hZ(ic al.out fy.out)⟩
     case measure=>simp [intOf];omega
    ·have t3:(c.length:Int)<=(k:Int):=by omega
     have gX:Hid(V=X++(p.take(t+1)).flatMap jQ):=by
      unfold Hid;rw [d8.out,List.take_of_length_le(show c.length<=k by omega),fW.out,<-gI.out,HZ.out];simp [jQ,js]
     have dF:V.length<=20+650*(t+1):=by have:=hw.out;omega
     go_wp2_with fail
     go_roundw
     case rel=>exact⟨t+1,V,by omega,by go_num,rfl,gX,dF,al⟩
     case measure=>simp [intOf];omega
  ·have t1:(p.length:Int)<=(t:Int):=by omega
   have fp:Hid(Z=X++p.flatMap jQ):=by
    unfold Hid;rw [HZ.out,List.take_of_length_le(by omega)]
   have dD:Z.length<=1000000:=by omega
   have hA:Hid(∀ x∈Z,x<256):=by
    unfold Hid;rw [fp.out]
    intro x hx;rcases List.mem_append.1 hx with hx | hx
    ·exact hB x hx
    ·obtain⟨c,_,hc⟩:=List.mem_flatMap.1 hx;exact xO c x hc
   rw [<-fp.out]at HQ;go_upto_if 71 with fail
   refine wp_cond_false rfl ?_;refine wp_exit ?_;refine ‹∀ a w,Code.wp Tryz.prog _ _ a w->_› _ _ ?_;refine Ea dD hA.out((HI.out.pres(ie HG.out)).mono HG.out.size)HV gP(ie HG.out _ _ H1.out)⟨ie HG.out _ _ H6.out.1,ie HG.out _ _ H6.out.2.1,ie HG.out _ _ H6.out.2.2⟩ac ?_;intro z0 z1 z4 z5 z6 z7 z8 z9 d7 d2 e5 ed fo eI ei fk fB e9 d9 ez eR fO eO ec eN fz eY eC ff el em eS fG dZ eb eU fA fD eB fa fN fw fi fL eF eT eQ fb d4 fx fK ee eD ep fc ev fm eZ eo fn fv fj eW eJ fR e4 fJ eX eq eM fq ew ej eH fP ea e7 eE fl fS fC fu eV eK e6 eG fr d0 ef er fQ fe et e8 fH eg d1 d6 ay aT bz b6 aD bY aM ap bX av bt ar be bh bN aQ bu bm aC bv aR aN bJ au aW bG a1 aZ aP bq ax aw bF bM br bf aJ bA bd bD bg bI bo a5 ba bj bn a4 bi aU bU a9 bS aK aO aS bC aX a2 b7 bQ b5 bW bE an bV bc bP bH a7 bw az aH aB a6 bT aF bk a3 aq aY aI bL aV a8 aA b8 w' gG;exact HQ.out w'(ic HG.out gG)
def kh(a:Art):Value:=if jF a=0 then .tuple #[.string(bs(mV a)), .int .i64 0]else .tuple #[.string⟨#[]⟩, .int .i64(jF a)]
def CT(i:Ins):Prop:= -9223372036854775808<=i.n/\i.n<=9223372036854775807
theorem sj(p:List(List Ins))(s:List Int)(k0 k1 k2:Int)(tv sv:Value)(w:World)(hP:ProgAt w(.agg #[tv])p)(hI:IntsAt w.heap.size w sv s)(aL:p.length<=5864062014634)(ax:∀ c∈p,c.length<=4398046510976)(hi:∀ c∈p,∀ i∈c,CT i):
  Calls Tryz.prog 40 #[.agg #[tv,sv, .int .i64 k0, .int .i64 k1, .int .i64 k2]]w fun e w'=>w.grownBy w' none/\e= .returned(kh⟨p,s,(k0,k1,k2)⟩):=by
 obtain⟨ta,tc,aq⟩:=hP.form;simp only [Value.agg.injEq,Array.mk.injEq,List.cons.injEq,and_true]at aq;subst aq;obtain⟨so,sc,rfl⟩:=hI.form;have HP:=hZ hP;have HI:=hZ hI;have aM:=hZ ax;have aD:=hZ hi;clear hP hI ax hi;go_enter Tryz.func40,Tryz.ntmps40
 go_wp2_with fail
 obtain⟨w1,aj⟩:∃ w1,w1=w.alloc(.cells #[.slice ta p.length tc, .slice so s.length sc, .int .i64 k0, .int .i64 k1, .int .i64 k2]56):=⟨_,rfl⟩;have aA:w1.heap[w.heap.size]?=some(.cells #[.slice ta p.length tc, .slice so s.length sc, .int .i64 k0, .int .i64 k1, .int .i64 k2]56(0,0)):=by rw [aj];exact heap_alloc_new w _
 have au:Hid(w.grownBy w1 none):=by unfold Hid;rw [aj];exact ij(il _ _)
 rw [<-aj];clear aj;have ao:=hZ aA;clear aA;refine(mE p _ w1(HP.out.pres(ie au.out))aL aM.out).mono ?_;rintro e w2⟨rfl,ak⟩;have HG12:=hZ ak;have ai:Hid(w.grownBy w2 none):=ic au.out ak;have ah:Hid(w2.heap[w.heap.size]?=some(.cells #[.slice ta p.length tc, .slice so s.length sc, .int .i64 k0, .int .i64 k1, .int .i64 k2]56(0,0))):=by
  unfold Hid;rw [ak.block _(Array.getElem?_eq_some_iff.1 ao.out).1(by simp)];exact ao.out
 clear ak;cases hv:iR p
 ·have HE:Hid(je p=1):=by unfold Hid je;simp [hv]
  have aa:Hid(jF⟨p,s,(k0,k1,k2)⟩=1):=by unfold Hid jF;simp only;rw [hv];rfl
  rw [HE.out];clear hv;go_wp2_with fail
  refine bodyPost_ret(v:= .tuple #[.string⟨#[]⟩, .int .i64 1])(by simp [results,Tryz.results40,go_sem])rfl ?_;exact⟨ai.out,by unfold kh;rw [aa.out];rfl⟩
 ·have HE:Hid(je p=0):=by unfold Hid je;simp [hv]
  have ac:=hZ hv;rw [HE.out];clear hv HE;have d1:w2.cell?⟨w.heap.size,1,none⟩=some(.slice so s.length sc):=by simp [World.cell?,ah.out]
  have ar:=hZ(rW s _ w2((HI.out.pres(ie ai.out)).mono ai.out.size));go_wp2_with fail
  refine ar.out.mono ?_;clear ar d1;rintro e w3⟨rfl,ap⟩;have aC:Hid(w.grownBy w3 none):=ic ai.out ap;have ad:w3.heap[w.heap.size]?=some(.cells #[.slice ta p.length tc, .slice so s.length sc, .int .i64 k0, .int .i64 k1, .int .i64 k2]56(0,0)):=by
   rw [ap.block _(Array.getElem?_eq_some_iff.1 ah.out).1(by simp)];exact ah.out
  have d0:w3.cell?⟨w.heap.size,0,none⟩=some(.slice ta p.length tc):=by simp [World.cell?,ad]
  have d1:w3.cell?⟨w.heap.size,1,none⟩=some(.slice so s.length sc):=by simp [World.cell?,ad]
  have d2:w3.cell?⟨w.heap.size,2,none⟩=some(.int .i64 k0):=by simp [World.cell?,ad]
  have d3:w3.cell?⟨w.heap.size,3,none⟩=some(.int .i64 k1):=by simp [World.cell?,ad]
  have d4:w3.cell?⟨w.heap.size,4,none⟩=some(.int .i64 k2):=by simp [World.cell?,ad]
  have aw:=hZ d0;have ay:=hZ d1;clear ad ap d0 d1;generalize ag:i8 s=vs;go_upto_region 6 with fail
  clear d2 d3 d4;have af:w3.grownBy(w3.alloc(.cells #[.int .i64 k0, .int .i64 k1, .int .i64 k2]26))none:=ij(il _ _);have ae:=heap_alloc_new w3(.cells #[.int .i64 k0, .int .i64 k1, .int .i64 k2]26);generalize w3.alloc(.cells #[.int .i64 k0, .int .i64 k1, .int .i64 k2]26)=w4 at af ae ⊢;have ab:Hid(w.grownBy w4 none):=ic aC.out af;have aI:=hZ(ie af _ _ aw.out);have aJ:=hZ(ie af _ _ ay.out);have f0:w4.cell?⟨w3.heap.size,0,none⟩=some(.int .i64 k0):=by simp [World.cell?,ae]
  have f1:w4.cell?⟨w3.heap.size,1,none⟩=some(.int .i64 k1):=by simp [World.cell?,ae]
  have f2:w4.cell?⟨w3.heap.size,2,none⟩=some(.int .i64 k2):=by simp [World.cell?,ae]
  have HF:Hid(w4.cell?⟨w3.heap.size,0,none⟩=some(.int .i64 k0)/\w4.cell?⟨w3.heap.size,1,none⟩=some(.int .i64 k1)/\w4.cell?⟨w3.heap.size,2,none⟩=some(.int .i64 k2)):=⟨f0,f1,f2⟩;clear af ae aw ay ao ah;by_cases al:vs=true
  case neg=>
   have aB:vs=false:=by simpa using al
   have aa:Hid(jF⟨p,s,(k0,k1,k2)⟩=2):=by unfold Hid jF;simp only;rw [if_pos ac.out,if_neg(by rintro⟨h1,_⟩;rw [ag,aB]at h1;cases h1)]
   subst aB;clear al ag;go_wp2_with fail
   refine bodyPost_ret(v:= .tuple #[.string⟨#[]⟩, .int .i64 2])(by simp [results,Tryz.results40,go_sem])rfl ?_;exact⟨ab.out,by unfold kh;rw [aa.out];rfl⟩
  case pos=>
  subst al;have av:=hZ ag;clear ag;by_cases h:k0<1
  ·have aa:Hid(jF⟨p,s,(k0,k1,k2)⟩=2):=by unfold Hid jF;simp only;rw [if_pos ac.out,if_neg(by rintro⟨_,h2⟩;simp only [kL,Bool.and_eq_true,decide_eq_true_eq]at h2;omega)]
   go_wp2_with fail
   refine bodyPost_ret(v:= .tuple #[.string⟨#[]⟩, .int .i64 2])(by simp [results,Tryz.results40,go_sem])rfl ?_;exact⟨ab.out,by unfold kh;rw [aa.out];rfl⟩
  replace h:1<=k0:=by omega
  by_cases h:5<k0
  ·have aa:Hid(jF⟨p,s,(k0,k1,k2)⟩=2):=by unfold Hid jF;simp only;rw [if_pos ac.out,if_neg(by rintro⟨_,h2⟩;simp only [kL,Bool.and_eq_true,decide_eq_true_eq]at h2;omega)]
   go_wp2_with fail
   refine bodyPost_ret(v:= .tuple #[.string⟨#[]⟩, .int .i64 2])(by simp [results,Tryz.results40,go_sem])rfl ?_;exact⟨ab.out,by unfold kh;rw [aa.out];rfl⟩
  replace h:k0<=5:=by omega
  by_cases h:k1<0
  ·have aa:Hid(jF⟨p,s,(k0,k1,k2)⟩=2):=by unfold Hid jF;simp only;rw [if_pos ac.out,if_neg(by rintro⟨_,h2⟩;simp only [kL,Bool.and_eq_true,decide_eq_true_eq]at h2;omega)]
   go_wp2_with fail
   refine bodyPost_ret(v:= .tuple #[.string⟨#[]⟩, .int .i64 2])(by simp [results,Tryz.results40,go_sem])rfl ?_;exact⟨ab.out,by unfold kh;rw [aa.out];rfl⟩
  replace h:0<=k1:=by omega
  by_cases h:3<k1
  ·have aa:Hid(jF⟨p,s,(k0,k1,k2)⟩=2):=by unfold Hid jF;simp only;rw [if_pos ac.out,if_neg(by rintro⟨_,h2⟩;simp only [kL,Bool.and_eq_true,decide_eq_true_eq]at h2;omega)]
   go_wp2_with fail
   refine bodyPost_ret(v:= .tuple #[.string⟨#[]⟩, .int .i64 2])(by simp [results,Tryz.results40,go_sem])rfl ?_;exact⟨ab.out,by unfold kh;rw [aa.out];rfl⟩
  replace h:k1<=3:=by omega
  by_cases h:k2<0
  ·have aa:Hid(jF⟨p,s,(k0,k1,k2)⟩=2):=by unfold Hid jF;simp only;rw [if_pos ac.out,if_neg(by rintro⟨_,h2⟩;simp only [kL,Bool.and_eq_true,decide_eq_true_eq]at h2;omega)]
   go_wp2_with fail
   refine bodyPost_ret(v:= .tuple #[.string⟨#[]⟩, .int .i64 2])(by simp [results,Tryz.results40,go_sem])rfl ?_;exact⟨ab.out,by unfold kh;rw [aa.out];rfl⟩
  replace h:0<=k2:=by omega
  by_cases h:500<k2
  ·have aa:Hid(jF⟨p,s,(k0,k1,k2)⟩=2):=by unfold Hid jF;simp only;rw [if_pos ac.out,if_neg(by rintro⟨_,h2⟩;simp only [kL,Bool.and_eq_true,decide_eq_true_eq]at h2;omega)]
   go_wp2_with fail
   refine bodyPost_ret(v:= .tuple #[.string⟨#[]⟩, .int .i64 2])(by simp [results,Tryz.results40,go_sem])rfl ?_;exact⟨ab.out,by unfold kh;rw [aa.out];rfl⟩
  replace h:k2<=500:=by omega
  have an:kL(k0,k1,k2)=true:=by simp only [kL,Bool.and_eq_true,decide_eq_true_eq];omega
  have am:=(ju ac.out).2;have aH:Hid(∀ c∈p,c.length<=16/\∀ i∈c,kI i):=by
   intro c hc;have hp:=ac.out;simp only [iR,Bool.and_eq_true,List.all_eq_true]at hp;have h2:=hp.2.2 c hc;simp only [kW,Bool.and_eq_true,List.all_eq_true,decide_eq_true_eq]at h2;refine⟨h2.1,fun i hi'=> ?_⟩;obtain⟨g1,g2,g3⟩:=pO(h2.2 i hi');exact⟨g1,g2,g3,aD.out c hc i hi'⟩
  have aa:Hid(jF⟨p,s,(k0,k1,k2)⟩=0):=by unfold Hid jF;simp only;rw [if_pos ac.out,if_pos⟨av.out,an⟩]
  have aG:Hid(mO⟨p,s,(k0,k1,k2)⟩=([82,82,1]++jT p.length++p.flatMap jQ)++(mH s++mP(k0,k1,k2))):=by
   unfold Hid mO mf js;simp
  have aE:Hid(kh⟨p,s,(k0,k1,k2)⟩= .tuple #[.string(bs(([82,82,1]++jT p.length++p.flatMap jQ)++(mH s++mP(k0,k1,k2))++leB 4(lF(([82,82,1]++jT p.length++p.flatMap jQ)++(mH s++mP(k0,k1,k2)))))), .int .i64 0]):=by
   unfold Hid kh;rw [if_pos aa.out];unfold mV;rw [aG.out]
  have aK:=hZ an;clear an;have z0:decide(k0<1)=false:=decide_eq_false(by omega);have z1:decide(5<k0)=false:=decide_eq_false(by omega);have z2:decide(k1<0)=false:=decide_eq_false(by omega);have z3:decide(3<k1)=false:=decide_eq_false(by omega);have z4:decide(k2<0)=false:=decide_eq_false(by omega);have z5:decide(500<k2)=false:=decide_eq_false(by omega);have ZZ:Hid((decide(k0<1) || decide(5<k0) || decide(k1<0) || decide(3<k1) || decide(k2<0) || decide(500<k2))=false):=by unfold Hid;rw [z0,z1,z2,z3,z4,z5];rfl
  clear z0 z1 z2 z3 z4 z5;go_upto_if 58 with fail
  refine wp_cond_false(congrArg Value.bool ZZ.out) ?_;refine wp_skip ?_;refine ‹∀ a w,Code.wp Tryz.prog _ _ a w->_› _ _ ?_;refine DU(X:= [82,82,1]++jT p.length)(p:=p)(s:=s)(v:=(k0,k1,k2))(hZ rfl)(HP.out.pres(ie ab.out))am aH((HI.out.pres(ie ab.out)).mono ab.out.size)av aK aI aJ HF ?_ ?_
  ·exact fun _ _ _ _ _ h=>h
  intro z0 z1 z4 z5 z6 z7 z8 z9 z10 z11 z12 z13 z14 z15 z16 z17 z18 z19 z20 z21 z22 z23 z24 z25 z26 z27 z28 z29 z30 z31 z32 z33 z34 z35 z36 z37 z38 z39 z40 z41 z42 z43 z44 z45 z46 z47 z48 z49 z50 z51 z52 z53 z54 z55 z56 z57 z58 z59 z60 z61 z62 z63 z64 z65 z66 z67 z68 z69 z70 z71 z72 z73 z74 z75 z76 z77 z78 z79 z80 z81 z82 z83 z84 z85 z86 z87 z88 z89 z90 z91 z92 z93 z94 z95 z96 z97 z98 z99 z100 z101 z102 z103 z104 z105 z106 z107 z108 z109 z110 z111 z112 z113 z114 z115 z116 z117 z118 z119 z120 z121 z122 z123 z124 z125 z126 z127 z128 z129 z130 z131 z132 z133 z134 z135 z136 z137 z138 z139 z140 z141 z142 z143 z144 z145 z146 z147 z148 z149 z150 z151 z152 z153 z154 z155 z156 z157 z158 z159 z160 z161 z162 z163 z164 z165 z166 z167 z168 z169 z170 z171 z172 z173 z174 z175 z176 z177 z178 z179 z180 z181 z182 z183 z184 z185 z186 w' az;have aF:=hZ az;clear az;refine bodyPost_ret(v:=kh⟨p,s,(k0,k1,k2)⟩)(by rw [aE.out];simp [results,Tryz.results40,go_sem])rfl ?_;exact⟨ic ab.out aF.out,rfl⟩
end
section
open Go.RowKit
attribute [local go_sem] Go.World.cell?_alloc_some
def RDec(w:World)(s:ByteArray)(e:Ending)(w':World):Prop:=w.grownBy w' none/\
 ((km(byt s)=none/\e= .returned(.tuple #[.agg #[.slice none 0 0, .slice none 0 0, .int .i64 0, .int .i64 0, .int .i64 0], .int .i64 3]))\/
 ∃ a tv sv,km(byt s)=some a/\e= .returned(.tuple #[.agg #[tv,sv, .int .i64 a.ver.1, .int .i64 a.ver.2.1, .int .i64 a.ver.2.2], .int .i64 0])/\ProgAt w'(.agg #[tv])a.prog/\IntsAt w'.heap.size w' sv a.sch)
theorem AC {l:List Nat} {s:ByteArray}(h:bs l=s)(hl:∀ x∈l,x<256):l=byt s:=by rw [<-h,yu hl]
theorem Bb(s:ByteArray):bs(byt s)=s:=by
 apply ByteArray.ext;apply Array.ext';simp only [bs,strOfNums_data,byt,List.map_map];conv=>rhs;rw [<-List.map_id s.data.toList]
 refine List.map_congr_left fun x _=> ?_
 simp
theorem E2(a:Art):∀ x∈mV a,x<256:=by
 intro x hx;unfold mV mO at hx;simp only [List.mem_append]at hx;rcases hx with(hx | hx | hx | hx) | hx
 ·simp only [List.mem_cons,List.not_mem_nil,or_false]at hx;omega
 ·unfold mf js at hx;rcases List.mem_append.1 hx with hx | hx
  ·exact lm _ x hx
  ·obtain⟨c,_,hc⟩:=List.mem_flatMap.1 hx;exact xO c x hc
 ·unfold mH js at hx;rcases List.mem_append.1 hx with hx | hx
  ·exact lm _ x hx
  ·obtain⟨y,_,hy⟩:=List.mem_flatMap.1 hx;unfold lV js at hy;rcases List.mem_append.1 hy with hy | hy<;>exact lm _ x hy
 ·unfold mP js at hx;simp only [List.mem_append]at hx;rcases hx with hx | hx | hx<;>exact lm _ x hx
 ·exact FZ _ _ x hx
theorem xC(s:ByteArray)(w:World)(hs:s.size<=9223372036854775000):Calls Tryz.prog 42 #[.string s]w(RDec w s):=by
 have ao:Hid(km(byt s)=tL(byt s)):=(yJ(fun b hb=>vM s b hb)).symm;have aq:=hZ(rZ(byt s));have az:=hZ(fun u=>ET s u hs);have al:Hid(tL(byt s)=if(jX(byt s)).2=true/\jF(jX(byt s)).1=0/\mV(jX(byt s)).1=byt s then some(jX(byt s)).1 else none):=rfl;generalize hG:jX(byt s)=G at*;clear hG;obtain⟨⟨p,sc,k0,k1,k2⟩,ok⟩:=G;simp only at aq az al;go_enter Tryz.func42,Tryz.ntmps42
 go_wp2_with fail
 have au:w.grownBy(w.alloc(.cells #[.slice none 0 0, .slice none 0 0, .int .i64 0, .int .i64 0, .int .i64 0]56))none:=ij(il _ _);have aF:=heap_alloc_new w(.cells #[.slice none 0 0, .slice none 0 0, .int .i64 0, .int .i64 0, .int .i64 0]56);generalize w.alloc(.cells #[.slice none 0 0, .slice none 0 0, .int .i64 0, .int .i64 0, .int .i64 0]56)=w0 at au aF ⊢;have aN:=hZ au;have ap:=hZ aF;clear au aF;refine(az.out w0).mono ?_;clear az;rintro e w1⟨tv,sv,rfl,ay,aj,ah⟩;have aE:=aj.progAt;have ax:=jw ah;have aP:=hZ aj;have aO:=hZ ah;have aI:Hid(w.heap.size<w0.heap.size):=(Array.getElem?_eq_some_iff.1 ap.out).1;clear aj ah;obtain⟨ta,tc,aH⟩:=aE.form;simp only [Value.agg.injEq,Array.mk.injEq,List.cons.injEq,and_true]at aH;subst aH;obtain⟨so,ac,rfl⟩:=ax.form;have aK:=hZ aE;have aM:=hZ ax;have aQ:Hid(w.grownBy w1 none):=ic aN.out ay;have aC:Hid(w1.heap[w.heap.size]?=some(.cells #[.slice none 0 0, .slice none 0 0, .int .i64 0, .int .i64 0, .int .i64 0]56(0,0))):=by
  unfold Hid;rw [ay.block _(Array.getElem?_eq_some_iff.1 ap.out).1(by simp)];exact ap.out
 clear aE ax ay;go_upto_region 2 with fail
 have af:w1.grownBy(w1.alloc(.cells #[.slice ta p.length tc, .slice so sc.length ac, .int .i64 k0, .int .i64 k1, .int .i64 k2]56))none:=ij(il _ _);have aG:=heap_alloc_new w1(.cells #[.slice ta p.length tc, .slice so sc.length ac, .int .i64 k0, .int .i64 k1, .int .i64 k2]56);generalize w1.alloc(.cells #[.slice ta p.length tc, .slice so sc.length ac, .int .i64 k0, .int .i64 k1, .int .i64 k2]56)=w2 at af aG ⊢;have aJ:Hid(w.grownBy w2 none):=ic aQ.out af;have aa:Hid(w2.heap[w.heap.size]?=some(.cells #[.slice none 0 0, .slice none 0 0, .int .i64 0, .int .i64 0, .int .i64 0]56(0,0))):=by
  unfold Hid;rw [af.block _(Array.getElem?_eq_some_iff.1 aC.out).1(by simp)];exact aC.out
 have ag:=hZ aG;have av:=hZ af;have aB:=hZ(aK.out.pres(ie af));have aD:Hid(IntsAt w2.heap.size w2(.slice so sc.length ac)sc):=(aM.out.pres(ie af)).mono af.size;clear af aG ap aC aN;cases ok with
 | false=>
  have an:Hid(km(byt s)=none):=by unfold Hid;rw [ao.out,al.out,if_neg(by rintro⟨h,_⟩;cases h)]
  have z0:w2.cell?⟨w.heap.size,0,none⟩=some(.slice none 0 0):=by simp only [World.cell?,aa.out];rfl
  have z1:w2.cell?⟨w.heap.size,1,none⟩=some(.slice none 0 0):=by simp only [World.cell?,aa.out];rfl
  have z2:w2.cell?⟨w.heap.size,2,none⟩=some(.int .i64 0):=by simp only [World.cell?,aa.out];rfl
  have z3:w2.cell?⟨w.heap.size,3,none⟩=some(.int .i64 0):=by simp only [World.cell?,aa.out];rfl
  have z4:w2.cell?⟨w.heap.size,4,none⟩=some(.int .i64 0):=by simp only [World.cell?,aa.out];rfl
  have y0:w2.frozen?⟨w.heap.size,0,none⟩=false:=by simp [World.frozen?,aa.out]
  have y1:w2.frozen?⟨w.heap.size,1,none⟩=false:=by simp [World.frozen?,aa.out]
  have y2:w2.frozen?⟨w.heap.size,2,none⟩=false:=by simp [World.frozen?,aa.out]
  have y3:w2.frozen?⟨w.heap.size,3,none⟩=false:=by simp [World.frozen?,aa.out]
  have y4:w2.frozen?⟨w.heap.size,4,none⟩=false:=by simp [World.frozen?,aa.out]
  go_wp2_with fail
  obtain⟨e0,e1,e2,e3,e4,ad⟩:=pB w2 w.heap.size _ _ _ _ _ aa.out(.slice none 0 0)(.slice none 0 0)(.int .i64 0)(.int .i64 0)(.int .i64 0);generalize((((w2.setCell⟨w.heap.size,0,none⟩(.slice none 0 0)).setCell⟨w.heap.size,1,none⟩(.slice none 0 0)).setCell⟨w.heap.size,2,none⟩(.int .i64 0)).setCell⟨w.heap.size,3,none⟩(.int .i64 0)).setCell⟨w.heap.size,4,none⟩(.int .i64 0)=w9 at*;have ai:w.grownBy w9 none:=nU aJ.out ad(Nat.le_refl _);have HF:Hid(RDec w s(.returned(.tuple #[.agg #[.slice none 0 0, .slice none 0 0, .int .i64 0, .int .i64 0, .int .i64 0], .int .i64 3]))w9):=⟨ai,Or.inl⟨an.out,rfl⟩⟩;refine bodyPost_ret(v:= .tuple #[.agg #[.slice none 0 0, .slice none 0 0, .int .i64 0, .int .i64 0, .int .i64 0], .int .i64 3]) ?_ rfl HF.out;simp [results,Tryz.results42,go_sem,e0,e1,e2,e3,e4]
 | true=>
  have d0:w2.cell?⟨w1.heap.size,0,none⟩=some(.slice ta p.length tc):=by simp only [World.cell?,ag.out];rfl
  have d1:w2.cell?⟨w1.heap.size,1,none⟩=some(.slice so sc.length ac):=by simp only [World.cell?,ag.out];rfl
  have d2:w2.cell?⟨w1.heap.size,2,none⟩=some(.int .i64 k0):=by simp only [World.cell?,ag.out];rfl
  have d3:w2.cell?⟨w1.heap.size,3,none⟩=some(.int .i64 k1):=by simp only [World.cell?,ag.out];rfl
  have d4:w2.cell?⟨w1.heap.size,4,none⟩=some(.int .i64 k2):=by simp only [World.cell?,ag.out];rfl
  have aL:=hZ(sj p sc k0 k1 k2 _ _ w2 aB.out aD.out(by have:=aq.out.2;omega)(fun c hc=>by have:=(aq.out.1 c hc).1;omega)(fun c hc i hi=>((aq.out.1 c hc).2 i hi).2.2.2));go_wp2_with fail
  refine aL.out.mono ?_;clear aL d0 d1 d2 d3 d4;rintro e w3⟨ae,rfl⟩;have ar:Hid(w.grownBy w3 none):=ic aJ.out ae;have ak:Hid(w1.grownBy w3 none):=ic av.out ae;have ab:Hid(w3.heap[w.heap.size]?=some(.cells #[.slice none 0 0, .slice none 0 0, .int .i64 0, .int .i64 0, .int .i64 0]56(0,0))):=by
   unfold Hid;rw [ae.block _(Array.getElem?_eq_some_iff.1 aa.out).1(by simp)];exact aa.out
  have am:Hid(w3.heap[w1.heap.size]?=some(.cells #[.slice ta p.length tc, .slice so sc.length ac, .int .i64 k0, .int .i64 k1, .int .i64 k2]56(0,0))):=by
   unfold Hid;rw [ae.block _(Array.getElem?_eq_some_iff.1 ag.out).1(by simp)];exact ag.out
  have HP3:=hZ(aB.out.pres(ie ae));have HI3:Hid(IntsAt w3.heap.size w3(.slice so sc.length ac)sc):=(aD.out.pres(ie ae)).mono ae.size;clear ae aa ag aB aD aK aM;have z0:w3.cell?⟨w.heap.size,0,none⟩=some(.slice none 0 0):=by simp only [World.cell?,ab.out];rfl
  have z1:w3.cell?⟨w.heap.size,1,none⟩=some(.slice none 0 0):=by simp only [World.cell?,ab.out];rfl
  have z2:w3.cell?⟨w.heap.size,2,none⟩=some(.int .i64 0):=by simp only [World.cell?,ab.out];rfl
  have z3:w3.cell?⟨w.heap.size,3,none⟩=some(.int .i64 0):=by simp only [World.cell?,ab.out];rfl
  have z4:w3.cell?⟨w.heap.size,4,none⟩=some(.int .i64 0):=by simp only [World.cell?,ab.out];rfl
  have y0:w3.frozen?⟨w.heap.size,0,none⟩=false:=by simp [World.frozen?,ab.out]
  have y1:w3.frozen?⟨w.heap.size,1,none⟩=false:=by simp [World.frozen?,ab.out]
  have y2:w3.frozen?⟨w.heap.size,2,none⟩=false:=by simp [World.frozen?,ab.out]
  have y3:w3.frozen?⟨w.heap.size,3,none⟩=false:=by simp [World.frozen?,ab.out]
  have y4:w3.frozen?⟨w.heap.size,4,none⟩=false:=by simp [World.frozen?,ab.out]
  by_cases h0:jF⟨p,sc,(k0,k1,k2)⟩=0
  ·have aA:Hid(kh⟨p,sc,(k0,k1,k2)⟩= .tuple #[.string(bs(mV⟨p,sc,(k0,k1,k2)⟩)), .int .i64 0]):=by unfold Hid kh;rw [if_pos h0]
   rw [aA.out];by_cases hT:bs(mV⟨p,sc,(k0,k1,k2)⟩)=s
   ·have aw:Hid(km(byt s)=some⟨p,sc,(k0,k1,k2)⟩):=by unfold Hid;rw [ao.out,al.out,if_pos⟨by first | trivial | rfl,h0,AC hT(E2 _)⟩]
    rw [hT];clear hT h0;have d0:w3.cell?⟨w1.heap.size,0,none⟩=some(.slice ta p.length tc):=by simp only [World.cell?,am.out];rfl
    have d1:w3.cell?⟨w1.heap.size,1,none⟩=some(.slice so sc.length ac):=by simp only [World.cell?,am.out];rfl
    have d2:w3.cell?⟨w1.heap.size,2,none⟩=some(.int .i64 k0):=by simp only [World.cell?,am.out];rfl
    have d3:w3.cell?⟨w1.heap.size,3,none⟩=some(.int .i64 k1):=by simp only [World.cell?,am.out];rfl
    have d4:w3.cell?⟨w1.heap.size,4,none⟩=some(.int .i64 k2):=by simp only [World.cell?,am.out];rfl
    go_wp2_with fail
    obtain⟨e0,e1,e2,e3,e4,ad⟩:=pB w3 w.heap.size _ _ _ _ _ ab.out(.slice ta p.length tc)(.slice so sc.length ac)(.int .i64 k0)(.int .i64 k1)(.int .i64 k2);generalize((((w3.setCell⟨w.heap.size,0,none⟩(.slice ta p.length tc)).setCell⟨w.heap.size,1,none⟩(.slice so sc.length ac)).setCell⟨w.heap.size,2,none⟩(.int .i64 k0)).setCell⟨w.heap.size,3,none⟩(.int .i64 k1)).setCell⟨w.heap.size,4,none⟩(.int .i64 k2)=w9 at*;have ai:w.grownBy w9 none:=nU ar.out ad(Nat.le_refl _);have HF:Hid(RDec w s(.returned(.tuple #[.agg #[.slice ta p.length tc, .slice so sc.length ac, .int .i64 k0, .int .i64 k1, .int .i64 k2], .int .i64 0]))w9):=⟨ai,Or.inr⟨_,_,_,aw.out,rfl,((aP.out.step ak.out(fun _ e=>by cases e)).mono ak.out.size |>.step ad(fun q e=>by simp only [Option.some.injEq]at e;have:=aI.out;omega)).progAt,jw(kF(kF aO.out ak.out(fun _ e=>by cases e))ad(fun k e e2=>by simp only [Option.some.injEq]at e;have:=aI.out;have:=iw aO.out k e2;omega))⟩⟩;refine bodyPost_ret(v:= .tuple #[.agg #[.slice ta p.length tc, .slice so sc.length ac, .int .i64 k0, .int .i64 k1, .int .i64 k2], .int .i64 0]) ?_ rfl HF.out;simp [results,Tryz.results42,go_sem,e0,e1,e2,e3,e4]
   ·have an:Hid(km(byt s)=none):=by unfold Hid;rw [ao.out,al.out,if_neg(by rintro⟨_,_,h⟩;exact hT(by rw [h];exact Bb s))]
    clear h0;generalize bs(mV⟨p,sc,(k0,k1,k2)⟩)=TT at*;have hT2:(TT.toList==s.toList)=false:=by rw [beq_eq_false_iff_ne];intro h;rw [ByteArray.toList_eq,ByteArray.toList_eq]at h;exact hT(ByteArray.ext(Array.ext' h))
    go_wp2_with fail
    obtain⟨e0,e1,e2,e3,e4,ad⟩:=pB w3 w.heap.size _ _ _ _ _ ab.out(.slice none 0 0)(.slice none 0 0)(.int .i64 0)(.int .i64 0)(.int .i64 0);generalize((((w3.setCell⟨w.heap.size,0,none⟩(.slice none 0 0)).setCell⟨w.heap.size,1,none⟩(.slice none 0 0)).setCell⟨w.heap.size,2,none⟩(.int .i64 0)).setCell⟨w.heap.size,3,none⟩(.int .i64 0)).setCell⟨w.heap.size,4,none⟩(.int .i64 0)=w9 at*;have ai:w.grownBy w9 none:=nU ar.out ad(Nat.le_refl _);have HF:Hid(RDec w s(.returned(.tuple #[.agg #[.slice none 0 0, .slice none 0 0, .int .i64 0, .int .i64 0, .int .i64 0], .int .i64 3]))w9):=⟨ai,Or.inl⟨an.out,rfl⟩⟩;refine bodyPost_ret(v:= .tuple #[.agg #[.slice none 0 0, .slice none 0 0, .int .i64 0, .int .i64 0, .int .i64 0], .int .i64 3]) ?_ rfl HF.out;simp [results,Tryz.results42,go_sem,e0,e1,e2,e3,e4]
  ·have aA:Hid(kh⟨p,sc,(k0,k1,k2)⟩= .tuple #[.string⟨#[]⟩, .int .i64(jF⟨p,sc,(k0,k1,k2)⟩)]):=by unfold Hid kh;rw [if_neg h0]
   have an:Hid(km(byt s)=none):=by unfold Hid;rw [ao.out,al.out,if_neg(by rintro⟨_,h,_⟩;exact h0 h)]
   rw [aA.out];generalize jF⟨p,sc,(k0,k1,k2)⟩=ee at*;have h0':(ee !=0)=true:=by simpa using h0
   go_wp2_with fail
   obtain⟨e0,e1,e2,e3,e4,ad⟩:=pB w3 w.heap.size _ _ _ _ _ ab.out(.slice none 0 0)(.slice none 0 0)(.int .i64 0)(.int .i64 0)(.int .i64 0);generalize((((w3.setCell⟨w.heap.size,0,none⟩(.slice none 0 0)).setCell⟨w.heap.size,1,none⟩(.slice none 0 0)).setCell⟨w.heap.size,2,none⟩(.int .i64 0)).setCell⟨w.heap.size,3,none⟩(.int .i64 0)).setCell⟨w.heap.size,4,none⟩(.int .i64 0)=w9 at*;have ai:w.grownBy w9 none:=nU ar.out ad(Nat.le_refl _);have HF:Hid(RDec w s(.returned(.tuple #[.agg #[.slice none 0 0, .slice none 0 0, .int .i64 0, .int .i64 0, .int .i64 0], .int .i64 3]))w9):=⟨ai,Or.inl⟨an.out,rfl⟩⟩;refine bodyPost_ret(v:= .tuple #[.agg #[.slice none 0 0, .slice none 0 0, .int .i64 0, .int .i64 0, .int .i64 0], .int .i64 3]) ?_ rfl HF.out;simp [results,Tryz.results42,go_sem,e0,e1,e2,e3,e4]
end
section
open Go.RowKit
theorem ThrD.low {B B':Nat} {w:World} {tv:Value} {T:List(Value × Nat × List Value)}(h:ThrD B w tv T)(hb:B'<=B):ThrD B' w tv T:=
 ⟨iN h.row hb,fun x hx=>⟨iN(h.el x hx).1 hb,(h.el x hx).2⟩,h.dis⟩
theorem ThrD.grown {B:Nat} {w w':World} {tv:Value} {T:List(Value × Nat × List Value)}(h:ThrD B w tv T)(hg:w.grownBy w' none):ThrD B w' tv T:=
 ⟨iA h.row hg(fun _ e=>by cases e),fun x hx=>⟨iA(h.el x hx).1 hg(fun _ e=>by cases e),(h.el x hx).2⟩,h.dis⟩
theorem Fk {L B:Nat} {w:World} {tv:Value} {p:List(List Ins)}(h:ThrAt L B w tv p)(hl:∀ c∈p,c.length<=900):∃ T,T.length=p.length/\ThrD L w tv T:=by
 obtain⟨rows,h1,h2,h3,h4⟩:=h;have hr:rows.length=p.length:=by have:=h1.1;omega
 have aa:(List.zipWith(fun(v:Value)(c:List Ins)=>(v,c.length,jh c))rows p).length=p.length:=by simp [hr]
 have ab:(List.zipWith(fun(v:Value)(c:List Ins)=>(v,c.length,jh c))rows p).map(·.1)=rows:=by
  apply List.ext_getElem
  ·simp [hr]
  ·intro i h1 h2;simp
 refine⟨_,aa,⟨?_,fun x hx=> ?_,fun i j hi hj hij g e e'=> ?_⟩⟩
 ·rw [aa,ab];exact h1
 ·obtain⟨j,hj,rfl⟩:=List.getElem_of_mem hx;rw [aa]at hj;obtain⟨rv,e1,e2,_⟩:=h3 j hj;simp only [List.getElem_zipWith];have e3:rows[j]'(by omega)=rv:=by
   rw [List.getElem?_eq_getElem(by omega)]at e1;simpa using e1
  rw [e3];exact⟨e2,hl _(List.getElem_mem hj)⟩
 ·simp only [List.getElem_zipWith]at e e';rw [aa]at hi hj;exact h4 i j _ _ hij(List.getElem?_eq_getElem(by omega))(List.getElem?_eq_getElem(by omega))g e e'
def jL(s:ByteArray):Art × Int:=match km(byt s)with
 | none=>(⟨[], [],(0,0,0)⟩,3)
 | some a=>(a,0)
theorem ph {s:ByteArray}(h:km(byt s)=none):jL s=(⟨[], [],(0,0,0)⟩,3):=by unfold jL;rw [h]
theorem pj {s:ByteArray} {a:Art}(h:km(byt s)=some a):jL s=(a,0):=by unfold jL;rw [h]
theorem vx(s:ByteArray):(jL s).1.prog.length<=4/\(∀ c∈(jL s).1.prog,c.length<=16)/\(jL s).1.sch.length<=500:=by
 cases h:km(byt s)with
 | none=>rw [ph h];simp
 | some a=>
  rw [pj h];obtain⟨h1,h2,_⟩:=rB(uV(fun b hb=>vM s b hb)h).2;simp only [iR,Bool.and_eq_true,decide_eq_true_eq,List.all_eq_true]at h1;simp only [i8,Bool.and_eq_true,decide_eq_true_eq]at h2;refine⟨h1.2.1,fun c hc=> ?_,h2.1⟩;have h3:=h1.2.2 c hc;simp only [kW,Bool.and_eq_true,decide_eq_true_eq]at h3;exact h3.1
theorem DecS.form {w w':World} {L:Nat} {s:ByteArray} {e:Ending}(h:DecS w L s e w'):w.grownBy w' none/\∃ tv sv,e= .returned(.tuple #[.agg #[tv,sv, .int .i64(jL s).1.ver.1, .int .i64(jL s).1.ver.2.1, .int .i64(jL s).1.ver.2.2], .int .i64(jL s).2])/\ThrAt L w'.heap.size w' tv(jL s).1.prog/\w'.ownsRow L 3 1 sv(jL s).1.sch.length(iI(jL s).1.sch):=by
 obtain⟨hg,h⟩:=h;refine⟨hg, ?_⟩;rcases h with⟨h0,rfl⟩ | ⟨a,tv,sv,h0,rfl,ht,ho⟩
 ·rw [ph h0];exact⟨_,_,rfl,⟨[],⟨rfl,Or.inl⟨rfl,rfl⟩⟩,fun h e=>(by cases e),fun j hj=>absurd hj(Nat.not_lt_zero j),Apt.nil⟩,⟨rfl,Or.inl⟨rfl,rfl⟩⟩⟩
 ·rw [pj h0];exact⟨_,_,rfl,ht,ho⟩
theorem RDec.form {w w':World} {s:ByteArray} {e:Ending}(h:RDec w s e w'):w.grownBy w' none/\∃ tv sv,e= .returned(.tuple #[.agg #[tv,sv, .int .i64(jL s).1.ver.1, .int .i64(jL s).1.ver.2.1, .int .i64(jL s).1.ver.2.2], .int .i64(jL s).2])/\ProgAt w'(.agg #[tv])(jL s).1.prog/\IntsAt w'.heap.size w' sv(jL s).1.sch:=by
 obtain⟨hg,h⟩:=h;refine⟨hg, ?_⟩;rcases h with⟨h0,rfl⟩ | ⟨a,tv,sv,h0,rfl,hp,hi⟩
 ·rw [ph h0];exact⟨_,_,rfl,⟨none,0,rfl,fun k hk=>absurd hk(Nat.not_lt_zero k)⟩,⟨none,0,rfl,Nat.le_refl _,fun k hk=>absurd hk(Nat.not_lt_zero k)⟩⟩
 ·rw [pj h0];exact⟨_,_,rfl,hp,hi⟩
def HzD(W:World)(B b:Nat)(n:Int)(K:Nat->List(Value × Int))(e:Ending)(w':World):Prop:=
 e= .returned(.bool true)/\∃ n' who' f' K',n<=n'/\n'<=n+6/\Hz B w' b who' n' f' K'/\W.grownBy w' none/\∀ c,c<5->(K' c).length<=(K c).length+16
end
section
open Go.RowKit
attribute [local go_sem] Go.World.cell?_alloc_some
theorem zx {w w':World}(h:w.drew.grownBy w' none):w.grownBy w' none:=⟨h.os,h.tape,h.output,h.size,h.block⟩
theorem tD {w:World} {ao:Option Addr} {aa:Nat} {p:List(List Ins)}(h:ProgAt w(.agg #[.slice ao p.length aa])p) {t:Nat}(ht:t<p.length):∃ g o,ao=some⟨g,o,none⟩/\∃ rv,w.cell?⟨g,o+t,none⟩=some rv/\CodeAt w rv p[t]:=by
 obtain⟨ao',cap',e,hh⟩:=h;simp only [Value.agg.injEq,Array.mk.injEq,List.cons.injEq,Value.slice.injEq,and_true,true_and]at e;obtain⟨g,o,e1,rv,e2,e3⟩:=hh t ht;exact⟨g,o,by rw [e.1];exact e1,rv,e2,e3⟩
theorem tZ(p:List(List Ins))(a b:Value)(w:World)(hA:ProgAt w a p)(hB:ProgAt w b p)(hpl:p.length<=1000)(av:∀ c∈p,c.length<=4398046510976):
  Calls Tryz.prog 43 #[a,b]w fun e w'=>e= .returned(.bool true)/\w.grownBy w' none:=by
 obtain⟨ao,ag,rfl⟩:=hA.form;obtain⟨bo,ah,rfl⟩:=hB.form;have HA:=hZ hA;have HB:=hZ hB;have aD:=hZ av;have qp:(p.length:Int)<=1000:=by omega
 clear hA hB av;go_enter Tryz.func43,Tryz.ntmps43
 go_upto_region 1 with fail
 obtain⟨w1,aj⟩:∃ w1,w1=(w.alloc(.cells #[.slice ao p.length ag]37)).alloc(.cells #[.slice bo p.length ah]37):=⟨_,rfl⟩;rw [<-aj];have ai:Hid(w.grownBy w1 none):=by unfold Hid;rw [aj];exact ij(ij(il _ _))
 have c2:w1.cell?⟨w.heap.size,0,none⟩=some(.slice ao p.length ag):=by
  have hb:w1.heap[w.heap.size]?=some(.cells #[.slice ao p.length ag]37(0,0)):=by rw [aj,Below.heap_alloc _ _ _(by simp)];exact heap_alloc_new w _
  simp [World.cell?,hb]
 have c3:w1.cell?⟨w.heap.size+1,0,none⟩=some(.slice bo p.length ah):=by
  have hb:w1.heap[w.heap.size+1]?=some(.cells #[.slice bo p.length ah]37(0,0)):=by
   have:=heap_alloc_new(w.alloc(.cells #[.slice ao p.length ag]37))(.cells #[.slice bo p.length ah]37);rw [aj];simpa using this
  simp [World.cell?,hb]
 clear aj;generalize w.heap.size=n2 at*;have aq:=hZ c2;have ax:=hZ c3;go_wp2_with fail
 clear c2 c3;go_loopw [5](fun iv w'=>∃ t:Nat,t<=p.length/\iv= .int .i64 t/\Hid(w1.grownBy w' none))(fun iv _=>p.length - (intOf iv).toNat)
 case atStart=>exact⟨0,Nat.zero_le _,rfl,hZ(il _ _)⟩
 case round=>
  obtain⟨t,ht,rfl,HG⟩:=hrel;obtain⟨w2,au⟩:∃ w2,w2=wr:=⟨_,rfl⟩;rw [<-au]at HG ⊢;clear au;have k2:=ie HG.out _ _ aq.out;by_cases am:t<p.length
  ·have q0:(0:Int)<=(t:Int):=by omega
   have q1:(t:Int)<p.length:=by omega
   obtain⟨pg,po,rfl,rv,e1,e2⟩:=tD HA.out am;obtain⟨qg,qo,rfl,rw',e3,e4⟩:=tD HB.out am;have hcl:=aD.out _(List.getElem_mem am);have aA:=hZ e2;have ay:=hZ e4;obtain⟨ca,cc,aC,_⟩:=e2;obtain⟨da,dc,az,_⟩:=e4;subst aC az;generalize p[t]=c at*;have ap:Hid(∀ u,w1.grownBy u none->u.cell?⟨n2,0,none⟩=some(.slice(some⟨pg,po,none⟩)p.length ag)/\u.cell?⟨n2+1,0,none⟩=some(.slice(some⟨qg,qo,none⟩)p.length ah)/\u.cell?⟨pg,po+t,none⟩=some(.slice ca c.length cc)/\u.cell?⟨qg,qo+t,none⟩=some(.slice da c.length dc)):=fun u hu=>⟨ie hu _ _ aq.out,ie hu _ _ ax.out,ie(ic ai.out hu)_ _ e1,ie(ic ai.out hu)_ _ e3⟩
   have aB:=hZ(fun u hu=>pW c(.slice ca c.length cc)(.slice da c.length dc)u(aA.out.pres(ie(ic ai.out hu)))(ay.out.pres(ie(ic ai.out hu)))hcl);have ar:=ap.out w2.drew(ir HG.out);clear e1 e3;go_upto_region 6 with fail
   refine iu(fun u=>u.cell?⟨n2,0,none⟩=some(.slice(some⟨pg,po,none⟩)p.length ag)/\u.cell?⟨n2+1,0,none⟩=some(.slice(some⟨qg,qo,none⟩)p.length ah)/\u.cell?⟨pg,po+t,none⟩=some(.slice ca c.length cc)/\u.cell?⟨qg,qo+t,none⟩=some(.slice da c.length dc))11(by kernel_rfl)(by kernel_rfl)ar ?_;intro aa;refine hY(i:=0)(v:= ?vv0)rfl(by kernel_rfl)(fun _ _ _ h=>h)(Or.inl⟨by kernel_rfl, ?hy0⟩)aa ?rest0
   case hy0=>(rintro u⟨ad,ac,ae,af⟩;go_simp;try with_reducible rfl)
   simp only [Act.put,List.setIfInBounds_toArray];refine hY(i:=1)(v:= ?vv1)rfl(by kernel_rfl)(fun _ _ _ h=>h)(Or.inl⟨by kernel_rfl, ?hy1⟩)aa ?rest1
   case hy1=>(rintro u⟨ad,ac,ae,af⟩;go_simp;try with_reducible rfl)
   simp only [Act.put];refine hY(i:=2)(v:= ?vv2)rfl(by kernel_rfl)(fun _ _ _ h=>h)(Or.inl⟨by kernel_rfl, ?hy2⟩)aa ?rest2
   case hy2=>(rintro u⟨ad,ac,ae,af⟩;go_simp;try with_reducible rfl)
   simp only [Act.put];refine hY(i:=3)(v:= ?vv3)rfl(by kernel_rfl)(fun _ _ _ h=>h)(Or.inl⟨by kernel_rfl, ?hy3⟩)aa ?rest3
   case hy3=>(rintro u⟨ad,ac,ae,af⟩;go_simp;try with_reducible rfl)
   simp only [Act.put];refine hY(i:=4)(v:= ?vv4)rfl(by kernel_rfl)(fun _ _ _ h=>h)(Or.inl⟨by kernel_rfl, ?hy4⟩)aa ?rest4
   case hy4=>(rintro u⟨ad,ac,ae,af⟩;go_simp;try with_reducible rfl)
   simp only [Act.put];refine hY(i:=5)(v:= ?vv5)rfl(by kernel_rfl)(fun _ _ _ h=>h)(Or.inl⟨by kernel_rfl, ?hy5⟩)aa ?rest5
   case hy5=>(rintro u⟨ad,ac,ae,af⟩;go_simp;try with_reducible rfl)
   simp only [Act.put];refine hY(i:=6)(v:= ?vv6)rfl(by kernel_rfl)(fun _ _ _ h=>h)(Or.inl⟨by kernel_rfl, ?hy6⟩)aa ?rest6
   case hy6=>(rintro u⟨ad,ac,ae,af⟩;go_simp;try with_reducible rfl)
   simp only [Act.put];refine hY(i:=7)(v:= ?vv7)rfl(by kernel_rfl)(fun _ _ _ h=>h)(Or.inl⟨by kernel_rfl, ?hy7⟩)aa ?rest7
   case hy7=>(rintro u⟨ad,ac,ae,af⟩;go_simp;try with_reducible rfl)
   simp only [Act.put];refine hY(i:=8)(v:= ?vv8)rfl(by kernel_rfl)(fun _ _ _ h=>h)(Or.inl⟨by kernel_rfl, ?hy8⟩)aa ?rest8
   case hy8=>(rintro u⟨ad,ac,ae,af⟩;go_simp;try with_reducible rfl)
   simp only [Act.put];refine hY(i:=9)(v:= ?vv9)rfl(by kernel_rfl)(fun _ _ _ h=>h)(Or.inl⟨by kernel_rfl, ?hy9⟩)aa ?rest9
   case hy9=>(rintro u⟨ad,ac,ae,af⟩;go_simp;try with_reducible rfl)
   simp only [Act.put];refine ip(i:=10)rfl(by kernel_rfl)(by kernel_rfl)(by kernel_rfl) ?_;intro K10 al;have ak:=hZ al;clear al;go_simp;refine(aB.out _(ir HG.out)).mono ?_;rintro e w3⟨rfl,aw⟩;have an:Hid(w1.grownBy w3 none):=ic HG.out(zx(iH aw));have ab:=ap.out w3 an.out;refine ak.out _ _ ab ?_;clear ak aw;try simp only [Act.put,List.setIfInBounds_toArray]
   refine iE rfl(by kernel_rfl)(by kernel_rfl)(by kernel_rfl) ?_;go_simp;clear aa ab ar k2;go_wp2_with fail
   go_roundw
   case rel=>exact⟨t+1,by omega,by go_num,an⟩
   case measure=>simp [intOf]<;>omega
  ·have q1:(p.length:Int)<=(t:Int):=by omega
   go_wp2_with fail
   go_ret;exact⟨rfl,ic ai.out HG.out⟩
end
section
open Go.RowKit
attribute [local go_sem] Go.World.cell?_alloc_some
structure WrL(W w:World)(b:Nat)(bv:Value)(l:List Nat)(T c:Nat)(vs:Array Value):Prop where
 wr:WrS W w b bv l
 var:w.heap[c]?=some(.cells vs T(0,0))
 cb:c≠b
 co:bv.ownBlock≠some c
theorem WrL.call {W w w':World} {b T c:Nat} {bv aa:Value} {l l':List Nat} {vs:Array Value}(h:WrL W w b bv l T c vs)(h1:WrS W w' b aa l')(h2:WrT w w' b bv aa):WrL W w' b aa l' T c vs:=by
 have hc:=(Array.getElem?_eq_some_iff.1 h.var).1;refine⟨h1,by rw [h2.keep c hc h.cb h.co];exact h.var,h.cb,fun e=> ?_⟩;rcases h2.own c e with e | e
 ·exact h.co e
 ·omega
theorem WrL.cell {W w:World} {b T c:Nat} {bv:Value} {l:List Nat} {vs:Array Value}(h:WrL W w b bv l T c vs)(o:Nat):w.cell?⟨c,o,none⟩=vs[o]?:=by
 have:=h.var;simp [World.cell?,this]
theorem WrL.start {W w:World} {b:Nat} {bv:Value} {l:List Nat}(h:WrS W w b bv l)(T:Nat)(vs:Array Value):WrL W(w.alloc(.cells vs T))b bv l T w.heap.size vs:=by
 have hb:=h.lt;refine⟨h.grown(ij(il _ _)),heap_alloc_new _ _,by omega,fun e=> ?_⟩;have:=h.row.lt _ e;omega
theorem AZ(W:World)(b:Nat)(v:Int × Int × Int)(h1:0<=v.1/\v.1<=9223372036854775807)(h2:0<=v.2.1/\v.2.1<=9223372036854775807)(h3:0<=v.2.2/\v.2.2<=9223372036854775807)
  (w:World)(bv:Value)(l:List Nat)(h:WrS W w b bv l)(hl:l.length<=900000):
  Calls Tryz.prog 94 #[pt b, .agg #[.int .i64 v.1, .int .i64 v.2.1, .int .i64 v.2.2]]w(uI W w b bv(l++mP v)):=by
 obtain⟨x,y,z⟩:=v;simp only at h1 h2 h3 ⊢;have HH:=hZ h;have aj:pt b= .pointer(some⟨b,0,none⟩):=rfl;rw [aj]at*;clear h;go_enter Tryz.func94,Tryz.ntmps94
 go_wp2_with fail
 have L0:=WrL.start HH.out 26 #[.int .i64 x, .int .i64 y, .int .i64 z];have T0:WrT w(w.alloc(.cells #[.int .i64 x, .int .i64 y, .int .i64 z]26))b bv bv:=(WrT.refl _ _ _).grown(ij(il _ _));generalize w.alloc(.cells #[.int .i64 x, .int .i64 y, .int .i64 z]26)=w1 at L0 T0 ⊢;refine(mp W b x h1.1 h1.2 w1 bv(l)L0.wr(by omega)).mono ?_;rintro e x1⟨⟨v1,rfl⟩,ag,ae,ac⟩;have L1:=L0.call ae ac;have T1:=T0.trans ac;have c1:x1.cell?⟨w.heap.size,1,none⟩=some(.int .i64 y):=by simpa using L1.cell 1
 have HL:=hZ L1;have HT:=hZ T1;clear L1 T1 L0 T0 ae ac;go_wp2_with fail
 have L1:=HL.out;have T1:=HT.out;clear HL HT c1;refine(mp W b y h2.1 h2.2 x1 ag(l++js x)L1.wr(by simp [js];have:=mR(n:=x.toNat)(by omega);omega)).mono ?_;rintro e x2⟨⟨v2,rfl⟩,ah,af,aa⟩;have L2:=L1.call af aa;have T2:=T1.trans aa;have c2:x2.cell?⟨w.heap.size,2,none⟩=some(.int .i64 z):=by simpa using L2.cell 2
 have HL:=hZ L2;have HT:=hZ T2;clear L2 T2 L1 T1 af aa;go_wp2_with fail
 have L2:=HL.out;have T2:=HT.out;clear HL HT c2;refine(mp W b z h3.1 h3.2 x2 ah(l++js x++js y)L2.wr(by simp [js];have:=mR(n:=x.toNat)(by omega);have:=mR(n:=y.toNat)(by omega);omega)).mono ?_;rintro e x3⟨⟨v3,rfl⟩,ai,ad,ab⟩;have L3:=L2.call ad ab;have T3:=T2.trans ab;have HL:=hZ L3.wr;have HT:=hZ T3;clear L3 T3 L2 T2 ad ab;go_wp2_with fail
 go_end0
 refine⟨⟨_,rfl⟩,ai, ?_,HT.out⟩;have:=HL.out;unfold mP;simpa using this
end
end Go.Proofs.YtklenjmfalljgabGreatDoor
