/- The texts Par Prn Wrt Rga Rgb Rgc Rda Rdb Rdc Rdd. -/
import Derived.Test.YtklenjmfalljgabGreatDoorMI
import Derived.Laws.BitsAllLaws
import Derived.Laws.Bits64
import Derived.Laws.BytesArg
import Derived.Lib.ConvBytes
import Derived.Defers
import Derived.Recover
namespace Go.Proofs.YtklenjmfalljgabGreatDoor
set_option maxRecDepth 100000
set_option maxHeartbeats 8000000
section
open Go.RowKit
attribute [local go_sem] Go.World.cell?_alloc_some
theorem C8(l:List Int)(t:Int)(k:Nat):iI(l++List.replicate(k+1)t)=iI(l++List.replicate k t)++ [.int .i64 t]:=by
 rw [List.replicate_succ',<-List.append_assoc,Bd]
theorem wL(W0 w:World)(r:Option Nat)(sv:Value)(l:List Int)(t:Int)(c:Nat)(h:w.ownsRow W0.heap.size 3 1 sv l.length(iI l))(hW:W0.grownBy w r)(hc:c<=501)(hl:l.length<=501):
  Calls Tryz.prog 102 #[sv, .agg #[.int .i64 t, .int .i64 c]]w fun e w'=>∃ sv',e= .returned sv'/\w'.ownsRow W0.heap.size 3 1 sv'(l++List.replicate c t).length(iI(l++List.replicate c t))/\W0.grownBy w' r/\w.grownBy w' sv.ownBlock/\((∃ x y z,sv'= .slice x y z)):=by
 obtain⟨i0,aj,ak,am,an⟩:=info_parts kt;obtain⟨sa,sn,sc,rfl⟩:=iq h;have HO:=hZ h;have HW:=hZ hW;have hW0:=hW.size;clear h hW;go_enter Tryz.func102,Tryz.ntmps102
 go_wp2_with fail
 go_loopw [0,7](fun lv i w'=>∃ k:Nat,k<=c/\i= .int .i64 k/\Hid(w'.ownsRow W0.heap.size 3 1 lv(l.length+k)(iI(l++List.replicate k t))/\W0.grownBy w' r/\w'.heap[w.heap.size]?=some(.cells #[.int .i64 t, .int .i64 c]187(0,0))/\lv.ownBlock≠some w.heap.size/\w.grownBy w'(Value.slice sa sn sc).ownBlock/\∀ k,lv.ownBlock=some k->(Value.slice sa sn sc).ownBlock=some k\/w.heap.size<=k))(fun _ i _=>c - (intOf i).toNat)
 case atStart=>
  refine⟨0,Nat.zero_le _,rfl, ?_,ij HW.out,heap_alloc_new _ _, ?_,ij(il _ _),fun k e=>Or.inl e⟩
  ·simpa using iG(o:= .cells #[.int .i64 t, .int .i64 c]187)HO.out
  ·intro e;rcases HO.out.2 with⟨e1,_⟩ | ⟨g,cap,cur,hv,_,hh,_⟩
   ·rw [e1]at e;cases e
   ·rw [hv]at e;simp [Value.ownBlock]at e;have:=(Array.getElem?_eq_some_iff.1 hh).1;omega
 case round=>
  obtain⟨k,hk,rfl,HL⟩:=hrel;obtain⟨w5,ai⟩:∃ w5,w5=wr:=⟨_,rfl⟩;subst ai;obtain⟨l1,l2,l3,l4,l5,l6⟩:=HL.out;have d0:w5.cell?⟨w.heap.size,0,none⟩=some(.int .i64 t):=by simp [World.cell?,l3]
  have d1:w5.cell?⟨w.heap.size,1,none⟩=some(.int .i64 c):=by simp [World.cell?,l3]
  have ae:w.heap.size<w5.heap.size:=(Array.getElem?_eq_some_iff.1 l3).1;by_cases hkl:k<c
  ·have q3:(k:Int)<c:=by omega
   have al:l.length+k+1<=maxLen:=by unfold maxLen;omega
   have ag:=iw l1;have L1:=hZ l1;have L2:=hZ l2;have L3:=hZ l3;have L4:=hZ l4;have L5:=hZ l5;have L6:=hZ l6;have hn:w5.heap.size≠w.heap.size:=by omega
   clear l1 l2 l3 l4 l5 l6;go_wp2_with(at_builtin;refine wpList_append_lies _ rfl _ _ _ rfl W0.heap.size 3 i0 _ 1 8 Tryz.underlying39 aj ak am an rfl(by omega)u0(l.length+k)(iI(l++List.replicate k t))rfl(iG L1.out)⟨w5.heap.size,0,none⟩1 1 [.int .i64 t]rfl rfl(World.news_of_block(cs:= #[.int .i64 t])(t:=3)(fr:=(0,0))(heap_alloc_new w5 _))(by simp [Value.oneCell'])(by omega)al(by omega)(by simp;have:=L2.out.size;omega)(w5.heap.size+1)(by simp) ?_;intro g6 ac w6 ab aa af hlt6)
   have ah:Hid(w6.ownsRow W0.heap.size 3 1(.slice(some⟨g6,0,none⟩)(l.length+k+1)ac)(l.length+(k+1))(iI(l++List.replicate(k+1)t))/\W0.grownBy w6 r/\w6.heap[w.heap.size]?=some(.cells #[.int .i64 t, .int .i64 c]187(0,0))/\(Value.slice(some⟨g6,0,none⟩)(l.length+k+1)ac).ownBlock≠some w.heap.size/\w.grownBy w6(Value.slice sa sn sc).ownBlock/\∀ q,(Value.slice(some⟨g6,0,none⟩)(l.length+k+1)ac).ownBlock=some q->(Value.slice sa sn sc).ownBlock=some q\/w.heap.size<=q):=by
    refine⟨?_,jD(ij L2.out)aa(fun q e=>ag q e), ?_, ?_, ?_, ?_⟩
    ·rw [C8];exact ab
    ·rw [aa.block _(by simp;omega)(fun e=>L4.out e.symm),Below.heap_alloc _ _ _ ae];exact L3.out
    ·simp only [Value.ownBlock];rcases af with e | e
     ·rw [<-e];exact L4.out
     ·rw [e];simp;omega
    ·have ad:=ij(o:= .cells #[.int .i64 t]3)L5.out;refine⟨aa.os.trans ad.os,aa.tape.trans ad.tape,aa.output.trans ad.output,Nat.le_trans ad.size aa.size,fun q hq hr=> ?_⟩;rw [aa.block q(Nat.lt_of_lt_of_le hq ad.size)(fun e=>by
      rcases L6.out q e.symm with e2 | e2
      ·exact hr e2.symm
      ·omega)]
     exact ad.block q hq hr
    ·intro q e;rcases af with e2 | e2
     ·exact L6.out q(by rw [e2];exact e)
     ·right
      simp only [Value.ownBlock,Option.some.injEq]at e;omega
   clear ab aa af;go_wp2
   go_roundw
   case rel=>exact⟨k+1,by omega,by go_num,ah⟩
   case measure=>simp [intOf];omega
  ·have ek:k=c:=by omega
   have q2:(c:Int)<=(k:Int):=by omega
   subst ek;have L1:=hZ l1;have L2:=hZ l2;obtain⟨m1,m2,m3,rfl⟩:=iq l1;have L5:=hZ l5;clear l1 l2 l3 l4 l5 l6 HL;go_wp2
   go_ret;exact⟨_,rfl,by simpa using L1.out,L2.out,L5.out,_,_,_,rfl⟩
def AM(s:ByteArray)(sch:List Int)(total:Int)(a:Nat):AO:=if a<s.size then⟨[],a,false⟩else if total=501 then⟨[],0,false⟩else⟨sch,0,true⟩
theorem BY {f:Nat} {ab:List Int} {last aa:Int} {a:Nat} {s:ByteArray}(h:(iV s a last).ok=false):mA(f+1)ab last aa a((byt s).drop a)=⟨[],a+(iV s a last).len,false⟩:=by
 rw [mA];unfold iV at*;rw [if_neg(by rw [h];simp)]
theorem ru {f:Nat} {ab:List Int} {last aa:Int} {a:Nat} {s:ByteArray}(h:(iV s a last).ok=true)(h2:nf s(a+(iV s a last).len)32=true):
  mA(f+1)ab last aa a((byt s).drop a)=mA f(mx ab(min(aa+(iV s a last).count)501)(iV s a last).count(iV s a last).thread)(iV s a last).thread(min(aa+(iV s a last).count)501)(a+(iV s a last).len+1)((byt s).drop(a+(iV s a last).len+1)):=by
 have h3:(byt s)[a+(iV s a last).len]?=some 32:=by unfold nf at h2;simpa using h2
 have h4:=nx h3;rw [mA];unfold iV at*;rw [if_pos h,List.drop_drop,h4];simp only [if_true]
theorem ts {f:Nat} {ab:List Int} {last aa:Int} {a:Nat} {s:ByteArray}(h:(iV s a last).ok=true)(h2:nf s(a+(iV s a last).len)32=false):
  mA(f+1)ab last aa a((byt s).drop a)=AM s(mx ab(min(aa+(iV s a last).count)501)(iV s a last).count(iV s a last).thread)(min(aa+(iV s a last).count)501)(a+(iV s a last).len):=by
 unfold nf at h2;rw [mA];unfold iV AM at*;rw [if_pos h,List.drop_drop];cases h3:(byt s)[a+(jE last((byt s).drop a)).len]? with
 | none=>
  have h5:=List.getElem?_eq_none_iff.1 h3;rw [List.drop_eq_nil_of_le h5];rw [iP]at h5;rw [if_neg(show ¬a+(jE last((byt s).drop a)).len<s.size by omega)]
 | some c=>
  have h4:=nx h3;have h5:=kS h3;rw [iP]at h5;rw [h4,if_pos h5];rw [h3]at h2;have:c≠32:=by simpa using h2
  simp only [if_neg this]
structure xZ(W0:World)(b:Nat)(s:ByteArray)(f:Nat)(sch:List Int)(last total:Int)(a:Nat)(w':World):Prop where
 grown:W0.grownBy w'(some b)
 sc:ScAt w' b s a
 le:a<=s.size
 lo: -1<=last
 hi:last<=63
 t0:0<=total
 t1:total<=501
 sl:(sch.length:Int)<=total
 fu:s.size - a<f
 eq:mA f sch last total a((byt s).drop a)=jJ(byt s)
structure vc(W0:World)(b:Nat)(s:ByteArray)(sch:List Int)(total:Int)(a:Nat)(w':World):Prop where
 grown:W0.grownBy w'(some b)
 sc:ScAt w' b s a
 le:a<=s.size
 t0:0<=total
 t1:total<=501
 sl:(sch.length:Int)<=total
 eq:AM s sch total a=jJ(byt s)
def zj(m:Value)(w:World)(b n:Nat):Nat:=match m with
 | .bool true=>n+1 - vG w b
 | _=>0
def wZ(s:ByteArray)(w:World)(e:Ending)(w':World):Prop:=
 ∃ x y z,e= .returned(.tuple #[.slice x y z, .int .i64(jJ(byt s)).at_, .bool(jJ(byt s)).ok])/\w'.ownsRow(w.heap.size+1)3 1(.slice x y z)(jJ(byt s)).out.length(iI(jJ(byt s)).out)/\w.grownBy w' none
theorem Ca(s:ByteArray)(a:Nat)(last:Int)(ha:a<=s.size):a+(iV s a last).len<=s.size:=by
 have:=(BP last((byt s).drop a)).len;rw [List.length_drop,iP]at this;unfold iV;omega
theorem CH(s:ByteArray)(w:World)(hs:s.size<=9223372036854775806):
  Calls Tryz.prog 72 #[.string s]w(wZ s w):=by
 obtain⟨b,hb⟩:∃ b,b=w.heap.size:=⟨_,rfl⟩;obtain⟨W0,al⟩:∃ W0,W0=w.alloc(.cells #[.string s, .int .i64 0]184):=⟨_,rfl⟩;have au:ScAt W0 b s 0:=by unfold ScAt;rw [al,hb];exact heap_alloc_new w _
 have aC:W0.heap.size=b+1:=by rw [al,hb];simp
 have an:w.grownBy W0 none:=by rw [al];exact ij(il _ _)
 have ax:Hid(∀ w',W0.grownBy w'(some b)->w.grownBy w' none):=by
  intro w' h;refine⟨h.os.trans an.os,h.tape.trans an.tape,h.output.trans an.output,Nat.le_trans an.size h.size,fun k hk _=> ?_⟩;rw [h.block k(by omega)(by simp;omega)];exact an.block k hk(by simp)
 have az:=hZ au;clear au;have fin:∀ w4,W0.grownBy w4(some b)->∀ (x:Option Addr)(y z:Nat)(p:AO),p=jJ(byt s)->w4.ownsRow(b+1)3 1(.slice x y z)p.out.length(iI p.out)->wZ s w(.returned(.tuple #[.slice x y z, .int .i64 p.at_, .bool p.ok]))w4:=by
  intro w4 hg x y z p hp ho;subst hp;exact⟨x,y,z,rfl,by rw [<-hb];exact ho,ax.out _ hg⟩
 have ay:=hZ fin;clear fin ax;have aw:∀ w4:World,w4.ownsRow(b+1)3 1(.slice none 0 0)([]:List Int).length(iI []):=fun w4=>⟨rfl,Or.inl⟨rfl,rfl⟩⟩
 have ah:=hZ aw;clear aw;go_enter Tryz.func72,Tryz.ntmps72
 by_cases ap:s.size=0
 ·obtain rfl:s=⟨#[]⟩:=by
   obtain⟨d⟩:=s;simp [ByteArray.size]at ap;rw [ap]
  go_wp2_with fail
  rw [<-al,<-hb];clear al hb an;go_loopw [5,8,9](fun sv t m w'=>sv= .slice none 0 0/\t= .int .i64 0/\m= .bool false/\w'=W0)(fun _ _ _ _=>0)
  case atStart=>exact⟨rfl,rfl,rfl,rfl⟩
  case round=>
   obtain⟨rfl,rfl,rfl,rfl⟩:=hrel;have c1:wr.cell?⟨b,1,none⟩=some(.int .i64 0):=az.out.c1;have aG:(⟨#[]⟩:ByteArray).size=0:=rfl;go_wp2_with fail
   refine bodyPost_ret(v:= .tuple #[.slice none 0 0, .int .i64 0, .bool true])(by simp [results,Tryz.results72,go_sem])rfl ?_;exact ay.out _(il _ _)none 0 0⟨[],0,true⟩rfl(ah.out _)
 ·have a6:s≠⟨#[]⟩:=by intro e;rw [e]at ap;simp [ByteArray.size]at ap
  go_wp2_with fail
  rw [<-al,<-hb];have H0:Hid(xZ W0 b s(s.size+1) [](-1)0 0 W0):=by
   refine⟨il _ _,az.out,by omega,by omega,by omega,by omega,by omega,by simp,by omega, ?_⟩;unfold jJ;rw [if_neg(by intro e;have:=congrArg List.length e;rw [iP]at this;exact ap this),iP];rfl
  have hbW:b<W0.heap.size:=by omega
  have aY:s.toList.isEmpty=false:=by
   rw [ByteArray.toList_eq];cases hd:s.data.toList with
   | nil=>exact absurd(by have:=congrArg List.length hd;simpa using this)ap
   | cons a b=>rfl
  rw [aY,Bool.not_false];clear a6 ap al an aY;clear hb;go_loopw [5,7,8,9](fun sv l t m w'=>∃ (ab:List Int)(f:Nat)(last aa:Int)(mb:Bool)(a':Nat),l= .int .i64 last/\t= .int .i64 aa/\m= .bool mb/\Hid((mb=true/\xZ W0 b s f ab last aa a' w')\/(mb=false/\vc W0 b s ab aa a' w'))/\Hid(w'.ownsRow(b+1)3 1 sv ab.length(iI ab)))(fun _ _ _ m w'=>zj m w' b s.size)
  case atStart=>exact⟨[],s.size+1, -1,0,true,0,rfl,rfl,rfl,hZ(Or.inl⟨rfl,H0.out⟩),hZ(ah.out _)⟩
  case round=>
   obtain⟨ab,f,last,aa,mb,a',rfl,rfl,rfl,HI,HO⟩:=hrel;obtain⟨x1,x2,x3,rfl⟩:=iq HO.out;rcases HI.out with⟨rfl,hp⟩ | ⟨rfl,hp⟩
   ·have HP:=hZ hp;have ar:Hid(vG wr b=a'):=lT hp.sc;obtain⟨f,rfl⟩:∃ f',f=f'+1:=⟨f - 1,by have:=hp.fu;omega⟩;have aH:=hp.le;have ht0:=hp.t0;have ht1:=hp.t1;have hsl:=hp.sl;have hfu:=hp.fu;clear hp HI;go_wp2_with fail
    refine(FR s b a' last _ HP.out.sc aH hs).mono ?_;rintro e w1⟨aL,rfl,aG,a1,hc1,aK,aN⟩;have ao:=Ca s a' last aH;have aV:Hid(W0.grownBy w1(some b)):=ic HP.out.grown aL;have a0:Hid(w1.ownsRow(b+1)3 1(.slice x1 x2 x3)ab.length(iI ab)):=iA HO.out aL(fun k e=>by simp at e;omega);have aQ:=hZ aG;have hsz1:=aG.lt;clear aL aG HO;cases hok:(iV s a' last).ok with
    | false=>
     have HB:Hid(jJ(byt s)=⟨[],a'+(iV s a' last).len,false⟩):=by
      unfold Hid;rw [<-HP.out.eq];exact BY hok
     have c1:=aQ.out.c1;go_wp2_with fail
     go_quiet(fail)
     go_wp2_with fail
     refine bodyPost_ret(v:= .tuple #[.slice none 0 0, .int .i64((a'+(iV s a' last).len:Nat):Int), .bool false])(by simp [results,Tryz.results72,go_sem])rfl ?_;exact ay.out _(iU _(ij aV.out))none 0 0⟨[],a'+(iV s a' last).len,false⟩HB.out.symm(ah.out _)
    | true=>
     have aX:∀ o,W0.grownBy(w1.alloc o)(some b):=fun o=>ij aV.out
     have aP:∀ o,(w1.alloc o).ownsRow(b+1)3 1(.slice x1 x2 x3)ab.length(iI ab):=fun o=>iG a0.out
     have aS:∀ o,ScAt(w1.alloc o)b s(a'+(iV s a' last).len):=fun o=>aQ.out.grown(ij(il _ _))
     obtain⟨w3,aB⟩:∃ w3,w3=w1.alloc(.cells #[.int .i64(iV s a' last).thread, .int .i64(iV s a' last).count]187):=⟨_,rfl⟩;have aF:Hid(w3.ownsRow(b+1)3 1(.slice x1 x2 x3)ab.length(iI ab)):=by rw [aB];exact aP _
     have aE:Hid(ScAt w3 b s(a'+(iV s a' last).len)):=by rw [aB];exact aS _
     have aI:Hid(W0.grownBy w3(some b)):=by rw [aB];exact aX _
     clear aX aP aS;have aO:=hZ aB;clear aB;by_cases hm:501<aa+(iV s a' last).count
     ·have am:Hid(min(aa+(iV s a' last).count)501=501):=by unfold Hid;omega
      have ae:Hid(mx ab 501(iV s a' last).count(iV s a' last).thread=ab):=by
       unfold Hid mx;rw [if_neg(by omega)]
      have af:(ab.length:Int)<=501:=by omega
      have aA:b<w3.heap.size:=aE.out.lt;have ai:a'+(iV s a' last).len<=s.size:=ao;go_wp2_with fail
      rw [<-aO.out];refine(wh s b _ 32 _ aE.out ai hs).mono ?_;rintro e w4⟨ag,rfl,ac⟩;have ak:Hid(w4.ownsRow(b+1)3 1(.slice x1 x2 x3)ab.length(iI ab)):=iA aF.out ag(fun k e=>by simp at e;omega);have aj:Hid(W0.grownBy w4(some b)):=ic aI.out ag;unfold xY at ac;cases hit:nf s(a'+(iV s a' last).len)32 with
      | true=>
       rw [hit,if_pos rfl]at ac;have HN:Hid(xZ W0 b s f ab(iV s a' last).thread 501(a'+(iV s a' last).len+1)w4):=by
        have aq:a'+(iV s a' last).len<s.size:=by
         unfold nf at hit;have:=kS(show(byt s)[a'+(iV s a' last).len]?=some 32 by simpa using hit);rwa [iP]at this
        exact⟨aj.out,ac,by omega,aK,aN,by omega,by omega,af,by omega,by have e:=HP.out.eq;rw [ru hok hit,am.out,ae.out]at e;exact e⟩
       clear ag ac;go_wp2_with fail
       go_roundw
       case rel=>exact⟨ab,f,(iV s a' last).thread,501,true,a'+(iV s a' last).len+1,rfl,rfl,rfl,hZ(Or.inl⟨rfl,HN.out⟩),ak⟩
       case measure=>
        have e1:=lT HN.out.sc;have e2:=ar.out;have e3:=HN.out.le;simp only [zj,e1,e2];omega
      | false=>
       rw [hit,if_neg(by simp)]at ac;have HN:Hid(vc W0 b s ab 501(a'+(iV s a' last).len)w4):=
        ⟨aj.out,ac,by omega,by omega,by omega,af,by have e:=HP.out.eq;rw [ts hok hit,am.out,ae.out]at e;exact e⟩
       clear ag ac;go_wp2_with fail
       go_roundw
       case rel=>exact⟨ab,f,(iV s a' last).thread,501,false,a'+(iV s a' last).len,rfl,rfl,rfl,hZ(Or.inr⟨rfl,HN.out⟩),ak⟩
       case measure=>
        have e2:=ar.out;simp only [zj,e2];omega
     ·have am:Hid(min(aa+(iV s a' last).count)501=(aa+(iV s a' last).count)):=by unfold Hid;omega
      by_cases aJ:aa+(iV s a' last).count=501
      ·have ae:Hid(mx ab(aa+(iV s a' last).count)(iV s a' last).count(iV s a' last).thread=ab):=by
        unfold Hid mx;rw [if_neg(by omega)]
       have af:(ab.length:Int)<=(aa+(iV s a' last).count):=by omega
       have a4:¬(aa+(iV s a' last).count<501):=by omega
       have HM2:=hZ aJ;clear aJ;have aA:b<w3.heap.size:=aE.out.lt;have ai:a'+(iV s a' last).len<=s.size:=ao;go_wp2_with fail
       rw [<-aO.out];refine(wh s b _ 32 _ aE.out ai hs).mono ?_;rintro e w4⟨ag,rfl,ac⟩;have ak:Hid(w4.ownsRow(b+1)3 1(.slice x1 x2 x3)ab.length(iI ab)):=iA aF.out ag(fun k e=>by simp at e;omega);have aj:Hid(W0.grownBy w4(some b)):=ic aI.out ag;unfold xY at ac;cases hit:nf s(a'+(iV s a' last).len)32 with
       | true=>
        rw [hit,if_pos rfl]at ac;have HN:Hid(xZ W0 b s f ab(iV s a' last).thread(aa+(iV s a' last).count)(a'+(iV s a' last).len+1)w4):=by
         have aq:a'+(iV s a' last).len<s.size:=by
          unfold nf at hit;have:=kS(show(byt s)[a'+(iV s a' last).len]?=some 32 by simpa using hit);rwa [iP]at this
         exact⟨aj.out,ac,by omega,aK,aN,by omega,by omega,af,by omega,by have e:=HP.out.eq;rw [ru hok hit,am.out,ae.out]at e;exact e⟩
        clear ag ac;go_wp2_with fail
        go_roundw
        case rel=>exact⟨ab,f,(iV s a' last).thread,(aa+(iV s a' last).count),true,a'+(iV s a' last).len+1,rfl,rfl,rfl,hZ(Or.inl⟨rfl,HN.out⟩),ak⟩
        case measure=>
         have e1:=lT HN.out.sc;have e2:=ar.out;have e3:=HN.out.le;simp only [zj,e1,e2];omega
       | false=>
        rw [hit,if_neg(by simp)]at ac;have HN:Hid(vc W0 b s ab(aa+(iV s a' last).count)(a'+(iV s a' last).len)w4):=
         ⟨aj.out,ac,by omega,by omega,by omega,af,by have e:=HP.out.eq;rw [ts hok hit,am.out,ae.out]at e;exact e⟩
        clear ag ac;go_wp2_with fail
        go_roundw
        case rel=>exact⟨ab,f,(iV s a' last).thread,(aa+(iV s a' last).count),false,a'+(iV s a' last).len,rfl,rfl,rfl,hZ(Or.inr⟨rfl,HN.out⟩),ak⟩
        case measure=>
         have e2:=ar.out;simp only [zj,e2];omega
      ·have a4:aa+(iV s a' last).count<501:=by omega
       obtain⟨c,hc⟩:=Int.eq_ofNat_of_zero_le a1;obtain⟨ad,av⟩:∃ ad,ad=ab++List.replicate c(iV s a' last).thread:=⟨_,rfl⟩;have ae:Hid(mx ab(aa+(iV s a' last).count)(iV s a' last).count(iV s a' last).thread=ad):=by
        unfold Hid mx;rw [if_pos(by omega),av,hc];rfl
       have af:(ad.length:Int)<=(aa+(iV s a' last).count):=by rw [av];simp;omega
       have aM:=wL W0 w3(some b)(.slice x1 x2 x3)ab(iV s a' last).thread c(by rw [aC];exact aF.out)aI.out(by omega)(by omega);rw [aC,<-av,<-hc]at aM;have aD:=hZ aM;have HC:=hZ hc;have HS3':=hZ av;clear aM hc av;clear aJ;go_wp2_with fail
       rw [<-aO.out];refine aD.out.mono ?_;rintro e w5⟨sv5,rfl,aT,aW,aR,y1,y2,y3,rfl⟩;have aU:Hid(ScAt w5 b s(a'+(iV s a' last).len)):=by
        have h3:=aE.out;have a2:=h3.lt;have a3:=iw aF.out;unfold Hid ScAt at*;rw [aR.block b a2(fun e=>by have:=a3 b e.symm;omega)];exact h3
       have aZ:=hZ aT;have a5:=hZ aW;clear aT aW aR aD;have aA:b<w5.heap.size:=aU.out.lt;have ai:a'+(iV s a' last).len<=s.size:=ao;go_wp2_with fail
       refine(wh s b _ 32 _ aU.out ai hs).mono ?_;rintro e w4⟨ag,rfl,ac⟩;have ak:Hid(w4.ownsRow(b+1)3 1(.slice y1 y2 y3)ad.length(iI ad)):=iA aZ.out ag(fun k e=>by simp at e;omega);have aj:Hid(W0.grownBy w4(some b)):=ic a5.out ag;unfold xY at ac;cases hit:nf s(a'+(iV s a' last).len)32 with
       | true=>
        rw [hit,if_pos rfl]at ac;have HN:Hid(xZ W0 b s f ad(iV s a' last).thread(aa+(iV s a' last).count)(a'+(iV s a' last).len+1)w4):=by
         have aq:a'+(iV s a' last).len<s.size:=by
          unfold nf at hit;have:=kS(show(byt s)[a'+(iV s a' last).len]?=some 32 by simpa using hit);rwa [iP]at this
         exact⟨aj.out,ac,by omega,aK,aN,by omega,by omega,af,by omega,by have e:=HP.out.eq;rw [ru hok hit,am.out,ae.out]at e;exact e⟩
        clear ag ac;go_wp2_with fail
        go_roundw
        case rel=>exact⟨ad,f,(iV s a' last).thread,(aa+(iV s a' last).count),true,a'+(iV s a' last).len+1,rfl,rfl,rfl,hZ(Or.inl⟨rfl,HN.out⟩),ak⟩
        case measure=>
         have e1:=lT HN.out.sc;have e2:=ar.out;have e3:=HN.out.le;simp only [zj,e1,e2];omega
       | false=>
        rw [hit,if_neg(by simp)]at ac;have HN:Hid(vc W0 b s ad(aa+(iV s a' last).count)(a'+(iV s a' last).len)w4):=
         ⟨aj.out,ac,by omega,by omega,by omega,af,by have e:=HP.out.eq;rw [ts hok hit,am.out,ae.out]at e;exact e⟩
        clear ag ac;go_wp2_with fail
        go_roundw
        case rel=>exact⟨ad,f,(iV s a' last).thread,(aa+(iV s a' last).count),false,a'+(iV s a' last).len,rfl,rfl,rfl,hZ(Or.inr⟨rfl,HN.out⟩),ak⟩
        case measure=>
         have e2:=ar.out;simp only [zj,e2];omega
   ·have HP:=hZ hp;have c1:=hp.sc.c1;have aH:=hp.le;clear hp HI;by_cases aq:a'<s.size
    ·have HE:Hid(jJ(byt s)=⟨[],a',false⟩):=by unfold Hid;rw [<-HP.out.eq,AM,if_pos aq]
     have q1:(a':Int)<s.size:=by omega
     go_wp2_with fail
     go_quiet(fail)
     go_wp2_with fail
     refine bodyPost_ret(v:= .tuple #[.slice none 0 0, .int .i64(a':Int), .bool false])(by simp [results,Tryz.results72,go_sem])rfl ?_;exact ay.out _(iU _ HP.out.grown)none 0 0⟨[],a',false⟩HE.out.symm(ah.out _)
    ·have q1:(s.size:Int)<=a':=by omega
     by_cases h5:aa=501
     ·have HE:Hid(jJ(byt s)=⟨[],0,false⟩):=by unfold Hid;rw [<-HP.out.eq,AM,if_neg aq,if_pos h5]
      have h6:(aa==501)=true:=by simpa using h5
      clear h5;go_wp2_with fail
      refine bodyPost_ret(v:= .tuple #[.slice none 0 0, .int .i64 0, .bool false])(by simp [results,Tryz.results72,go_sem])rfl ?_;exact ay.out _ HP.out.grown none 0 0⟨[],0,false⟩HE.out.symm(ah.out _)
     ·have HE:Hid(jJ(byt s)=⟨ab,0,true⟩):=by unfold Hid;rw [<-HP.out.eq,AM,if_neg aq,if_neg h5]
      go_wp2_with fail
      refine bodyPost_ret(v:= .tuple #[.slice x1 x2 x3, .int .i64 0, .bool true])(by simp [results,Tryz.results72,go_sem])rfl ?_;exact ay.out _ HP.out.grown x1 x2 x3⟨ab,0,true⟩HE.out.symm HO.out
end
section
open Go.RowKit
attribute [local go_sem] Go.World.cell?_alloc_some
def okN(t:Int):Bool:=decide(0<=t)&& decide(t<=63)
theorem Ae(l:List Int)(v:Value)(w:World)(hI:IntsAt w.heap.size w v l):
  Calls Tryz.prog 76 #[v]w fun e w'=>e= .returned(.bool(i8 l))/\w.grownBy w' none:=by
 obtain⟨ao,cap,rfl,hcap,hc⟩:=hI;by_cases h5:l.length<=500
 ·have g5:(l.length:Int)<=500:=by omega
  have HV:Hid(i8 l=l.all okN):=by unfold Hid i8;rw [decide_eq_true h5];rfl
  have HC:=hZ hc;clear hc;go_enter Tryz.func76,Tryz.ntmps76
  go_wp2
  go_loopw [10](fun i w'=>∃ k:Nat,k<=l.length/\i= .int .i64 k/\w'=w/\Hid((l.take k).all okN=true))(fun i _=>l.length - (intOf i).toNat)
  case atStart=>exact⟨0,Nat.zero_le _,rfl,rfl,rfl⟩
  case round=>
   obtain⟨k,hk,rfl,rfl,HA⟩:=hrel;by_cases ac:k<l.length
   ·obtain⟨g,o,rfl,hg,c0⟩:=HC.out k ac;have ab:=hZ(la l okN k ac);have hk0:(0:Int)<=(k:Int):=by omega
    have hk1:(k:Int)<l.length:=by omega
    have HF:Hid(okN l[k]=false->i8 l=false):=by
     intro h;rw [HV.out];have:(l.take(k+1)).all okN=false:=by rw [ab.out,h];simp
     rw [<-List.take_append_drop(k+1)l,List.all_append,this];rfl
    generalize l[k]=x at*;by_cases h0:0<=x
    ·by_cases ad:x<=63
     ·have af:Hid((l.take(k+1)).all okN=true):=by unfold Hid;rw [ab.out,HA.out];simp [okN,h0,ad]
      have ae:¬x<0:=by omega
      have aa:¬63<x:=by omega
      go_wp2
      go_roundw
      case rel=>exact⟨k+1,by omega,by go_num,trivial,af⟩
      case measure=>simp [intOf];omega
     ·have HE:=hZ(HF.out(by simp [okN,ad]));have aa:63<x:=by omega
      go_wp2
      go_ret;exact⟨by rw [HE.out];rfl,il _ _⟩
    ·have HE:=hZ(HF.out(by simp [okN,h0]));have ae:x<0:=by omega
     go_wp2
     go_ret;exact⟨by rw [HE.out];rfl,il _ _⟩
   ·have HE:Hid(i8 l=true):=by
     unfold Hid;rw [HV.out];have:=HA.out;rw [List.take_of_length_le(by omega)]at this;exact this
    go_wp2
    go_ret;exact⟨by rw [HE.out];rfl,il _ _⟩
 ·have g5:500<(l.length:Int):=by omega
  have HV:Hid(i8 l=false):=by unfold Hid i8;rw [decide_eq_false h5];rfl
  clear hc;go_enter Tryz.func76,Tryz.ntmps76
  go_wp2
  go_ret;exact⟨by rw [HV.out];rfl,il _ _⟩
theorem Az(q:List(Int × Int)):(iO q).length=q.length*2:=by
 induction q with
 | nil=>rfl
 | cons x q ih=>simp [iO]at ih ⊢;omega
theorem Ay(q:List(Int × Int))(hq:q≠ [])(x:Int × Int)(hx:q.getLast?=some x):(iO q).set((q.length - 1)*2+1)(.int .i64(x.2+1))=iO(nX q):=by
 induction q with
 | nil=>exact absurd rfl hq
 | cons y q ih=>
  cases q with
  | nil=>
   simp at hx;subst hx
   simp [iO,nX]
  | cons z q=>
   rw [List.getLast?_cons_cons]at hx;have:=ih(by simp)hx;have e1:iO(y::z::q)= .int .i64 y.1:: .int .i64 y.2::iO(z::q):=rfl;have e2:iO(nX(y::z::q))= .int .i64 y.1:: .int .i64 y.2::iO(nX(z::q)):=rfl;rw [e1,e2,<-this];have e3:((y::z::q).length - 1)*2+1=(((z::q).length - 1)*2+1)+1+1:=by simp;omega
   rw [e3,List.set_cons_succ,List.set_cons_succ]
theorem BT(q:List(Int × Int)):(nX q).length=q.length:=by
 induction q with
 | nil=>rfl
 | cons y q ih=>
  cases q with
  | nil=>rfl
  | cons z q=>simp [nX]at ih ⊢;exact ih
theorem Cd(q:List(Int × Int))(x:Int × Int)(hx:q.getLast?=some x):(iO q)[(q.length - 1)*2+1]?=some(.int .i64 x.2):=by
 induction q with
 | nil=>simp at hx
 | cons y q ih=>
  cases q with
  | nil=>simp at hx;subst hx;simp [iO]
  | cons z q=>
   rw [List.getLast?_cons_cons]at hx;have:=ih hx;have e1:iO(y::z::q)= .int .i64 y.1:: .int .i64 y.2::iO(z::q):=rfl;have e3:((y::z::q).length - 1)*2+1=(((z::q).length - 1)*2+1)+1+1:=by simp;omega
   rw [e1,e3];exact this
theorem DA:((Tryz.prog.info? 187).map fun i=>(i.zero,i.size,i.bytes))=some(some(.agg #[.int .i64 0, .int .i64 0]),2,16):=by kernel_rfl
theorem GJ(l:List Int)(v:Value)(w:World)(hI:IntsAt w.heap.size w v l)(h5:l.length<=500):
  Calls Tryz.prog 107 #[v]w fun e w'=>∃ x y z,e= .returned(.slice x y z)/\w'.ownsRow w.heap.size 187 2(.slice x y z)(grp l).length(iO(grp l))/\w.grownBy w' none:=by
 obtain⟨i0,aF,aG,aH,aE⟩:=info_parts DA;obtain⟨ao,cap,rfl,hcap,hc⟩:=hI;have HC:=hZ hc;clear hc;go_enter Tryz.func107,Tryz.ntmps107
 go_wp2_with fail
 go_loopw [3,8](fun lv i w'=>∃ k:Nat,k<=l.length/\i= .int .i64 k/\Hid(w'.ownsRow w.heap.size 187 2 lv(grp(l.take k)).length(iO(grp(l.take k)))/\w.grownBy w' none))(fun _ i _=>l.length - (intOf i).toNat)
 case atStart=>exact⟨0,Nat.zero_le _,rfl,⟨rfl,Or.inl⟨rfl,rfl⟩⟩,il _ _⟩
 case round=>
  obtain⟨k,hk,rfl,HL⟩:=hrel;obtain⟨w5,aJ⟩:∃ w5,w5=wr:=⟨_,rfl⟩;subst aJ;obtain⟨x1,x2,x3,rfl⟩:=iq HL.out.1;by_cases aC:k<l.length
  ·obtain⟨g,o,rfl,hg,c0⟩:=HC.out k aC;have d0:=ie HL.out.2 _ _ c0;have hk0:(0:Int)<=(k:Int):=by omega
   have hk1:(k:Int)<l.length:=by omega
   have HT:Hid(l.take(k+1)=l.take k++ [l[k]]):=List.take_succ_eq_append_getElem aC;have ap:=pq(l.take k);have au:(grp(l.take k)).length<=500:=by simp at ap;omega
   have ab:=CY(l.take k);have ad:=qf(l.take k);have aD:∀ (w6:World)(g6 aa:Nat)(q:List(Int × Int))(x:Int × Int),q≠ []->q.getLast?=some x->w6.ownsRow w.heap.size 187 2(.slice(some⟨g6,0,none⟩)q.length aa)q.length(iO q)->w.grownBy w6 none->
     (w6.setCell⟨g6,(q.length - 1)*2+1,none⟩(.int .i64(x.2+1))).ownsRow w.heap.size 187 2(.slice(some⟨g6,0,none⟩)q.length aa)(nX q).length(iO(nX q))/\w.grownBy(w6.setCell⟨g6,(q.length - 1)*2+1,none⟩(.int .i64(x.2+1)))none/\
     w6.cell?⟨g6,(q.length - 1)*2+1,none⟩=some(.int .i64 x.2)/\w6.frozen?⟨g6,(q.length - 1)*2+1,none⟩=false:=by
    intro w6 g6 aa q x hq hx ho ar;have hql:0<q.length:=List.length_pos_iff.2 hq;refine⟨?_, ?_, ?_, ?_⟩
    ·rw [BT,<-Ay q hq x hx];exact jo ho _ _
    ·exact iC ar(iw ho g6 rfl)
    ·rw [ho.cellAt _(by omega)];exact Cd q x hx
    ·rcases ho.2 with⟨e,_⟩ | ⟨g',cap',cur,hv,hb,hh,_⟩
     ·cases e
     ·simp only [Value.slice.injEq,Option.some.injEq,Addr.mk.injEq,true_and,and_true]at hv;obtain⟨rfl,rfl⟩:=hv;simp [World.frozen?,hh]
   have an:=hZ aD;clear aD;have H1:=hZ HL.out.1;have H2:=hZ HL.out.2;have H2s:=HL.out.2.size;have ax:=iw H1.out;have aA:(grp(l.take k)).length+1<=maxLen:=by unfold maxLen;omega
   have ag:¬(l.take k).getLast?=some l[k]->∀ (w6:World)(g6 aa:Nat),w6.ownsRow w.heap.size 187 2(.slice(some⟨g6,0,none⟩)((grp(l.take k)).length+1)aa)((grp(l.take k)).length+1)(iO(grp(l.take k))++ [.int .i64 l[k], .int .i64 0])->w.grownBy w6 none->
     (w6.setCell⟨g6,(grp(l.take k)).length*2+1,none⟩(.int .i64 1)).ownsRow w.heap.size 187 2(.slice(some⟨g6,0,none⟩)((grp(l.take k)).length+1)aa)(grp(l.take(k+1))).length(iO(grp(l.take(k+1))))/\w.grownBy(w6.setCell⟨g6,(grp(l.take k)).length*2+1,none⟩(.int .i64 1))none/\
     w6.cell?⟨g6,(grp(l.take k)).length*2+1,none⟩=some(.int .i64 0)/\w6.frozen?⟨g6,(grp(l.take k)).length*2+1,none⟩=false:=by
    intro hn w6 g6 aa ho ar;have:=an.out w6 g6 aa(grp(l.take k)++ [(l[k],0)])(l[k],0)(by simp)(by simp)(by simpa [iO]using ho)ar;have e2:nX(grp(l.take k)++ [(l[k],0)])=grp(l.take(k+1)):=by
     rw [HT.out,wG,if_neg hn];have:∀ q:List(Int × Int),nX(q++ [(l[k],0)])=q++ [(l[k],1)]:=by
      intro q;induction q with
      | nil=>rfl
      | cons y q ih=>
       cases q with
       | nil=>rfl
       | cons z q=>rw [List.cons_append,List.cons_append,nX,<-List.cons_append,ih];rfl
     exact this _
    rw [e2]at this;simpa using this
   have ak:=hZ ag;clear ag;by_cases ah:k=0
   ·have aj:=ak.out(by subst ah;simp);have ay:=hZ aj;clear aj ak an ab ad ap;have q0:((k:Int)==0)=true:=by simp;omega
    clear ah c0;generalize l[k]=x at*;go_wp2_with(at_builtin;refine wpList_append_lies _ rfl _ _ _ rfl w.heap.size 187 i0 _ 2 16 Tryz.underlying195 aF aG aH aE rfl(by omega)(.slice x1 x2 x3)(grp(l.take k)).length(iO(grp(l.take k)))rfl(iG H1.out)⟨w5.heap.size,0,none⟩1 1 [.int .i64 x, .int .i64 0]rfl rfl(World.news_of_block(cs:= #[.int .i64 x, .int .i64 0])(t:=187)(fr:=(0,0))(heap_alloc_new w5 _))(by simp [Value.oneCell'])(by omega)aA(by omega)(by simp;omega)(w5.heap.size+1)(by simp) ?_;intro g6 aa w6 ae af av aw;obtain⟨f1,f2,f3,f4⟩:=ay.out w6 g6 aa ae(jD(ij H2.out)af(fun q e=>ax q e));have F1:=hZ f1;have F2:=hZ f2;clear f1 f2 ae af av)
    go_roundw
    case rel=>exact⟨k+1,by omega,by go_num,F1.out,F2.out⟩
    case measure=>simp [intOf];omega
   ·have q0:((k:Int)==0)=false:=by simp;omega
    have al:k - 1<l.length:=by omega
    obtain⟨g',o',e',_,c1⟩:=HC.out(k - 1)al;simp only [Option.some.injEq,Addr.mk.injEq,and_true]at e';obtain⟨rfl,rfl⟩:=e';have d1:=ie H2.out _ _ c1;have ac:(l.take k).getLast?=some l[k - 1]:=by
     rw [List.getLast?_eq_getElem?,List.length_take,Nat.min_eq_left(by omega),List.getElem?_take,if_pos(by omega),List.getElem?_eq_getElem al]
    have hkk:(k:Int) - 1=((k - 1:Nat):Int):=by omega
    have q1:(0:Int)<=(k:Int) - 1:=by omega
    have q2:(k:Int) - 1<l.length:=by omega
    have q3:((k:Int) - 1).toNat=k - 1:=by omega
    clear c0 c1 ah;by_cases am:l[k]=l[k - 1]
    ·have hx:∃ x,(grp(l.take k)).getLast?=some x:=by
      rw [ac]at ab;cases hg2:(grp(l.take k)).getLast? with
      | none=>rw [hg2]at ab;cases ab
      | some x=>exact⟨x,rfl⟩
     obtain⟨y,hy⟩:=hx;have aq:=ad y(List.mem_of_getLast? hy);have ai:grp(l.take k)≠ []:=fun e=>by rw [e]at hy;cases hy
     have hE:Hid(nX(grp(l.take k))=grp(l.take(k+1))):=by
      unfold Hid;rw [HT.out,wG,if_pos(by rw [ac,am])]
     obtain⟨m,hm⟩:∃ m,(grp(l.take k)).length=m+1:=⟨(grp(l.take k)).length - 1,by have:=List.length_pos_iff.2 ai;omega⟩;obtain⟨g6,aa,e6,_,_⟩:=H1.out.form(by omega);have h1:=H1.out;rw [e6]at h1;obtain⟨f1,f2,f3,f4⟩:=an.out w5 g6 aa(grp(l.take k))y ai hy h1 H2.out;rw [hE.out,hm,Nat.add_sub_cancel]at f1;rw [hm,Nat.add_sub_cancel]at f2 f3 f4;rw [hm]at e6;simp only [Value.slice.injEq]at e6;obtain⟨rfl,rfl,rfl⟩:=e6;have F1:=hZ f1;have F2:=hZ f2;have aI:(l[k]==l[k - 1])=true:=by simpa using am
     have hyc2:y.2<=500:=by simp at aq;omega
     have hyc1:=aq.2.1;have hm500:m+1<=500:=by omega
     have HM:=hZ hm;rw [hm]at aA;clear f1 f2 h1 an ak ab ad ap au hE ai hy aq hm HL H1 H2 ac ax HT am;generalize l[k]=x at*;generalize l[k - 1]=x' at*;generalize y.2=n at*;go_wp2_with fail
     go_roundw
     case rel=>exact⟨k+1,by omega,by go_num,F1.out,F2.out⟩
     case measure=>simp [intOf];omega
    ·have aj:=ak.out(by rw [ac];simpa using fun e=>am e.symm);have ay:=hZ aj;have aI:(l[k]==l[k - 1])=false:=by simpa using am
     clear aj ak an ab ad ap ac;generalize l[k - 1]=x' at*;generalize l[k]=x at*;go_wp2_with(at_builtin;refine wpList_append_lies _ rfl _ _ _ rfl w.heap.size 187 i0 _ 2 16 Tryz.underlying195 aF aG aH aE rfl(by omega)(.slice x1 x2 x3)(grp(l.take k)).length(iO(grp(l.take k)))rfl(iG H1.out)⟨w5.heap.size,0,none⟩1 1 [.int .i64 x, .int .i64 0]rfl rfl(World.news_of_block(cs:= #[.int .i64 x, .int .i64 0])(t:=187)(fr:=(0,0))(heap_alloc_new w5 _))(by simp [Value.oneCell'])(by omega)aA(by omega)(by simp;omega)(w5.heap.size+1)(by simp) ?_;intro g6 aa w6 ae af av aw;obtain⟨f1,f2,f3,f4⟩:=ay.out w6 g6 aa ae(jD(ij H2.out)af(fun q e=>ax q e));have F1:=hZ f1;have F2:=hZ f2;clear f1 f2 ae af av)
     go_roundw
     case rel=>exact⟨k+1,by omega,by go_num,F1.out,F2.out⟩
     case measure=>simp [intOf];omega
  ·have ek:l.take k=l:=List.take_of_length_le(by omega);have q2:(l.length:Int)<=(k:Int):=by omega
   have az:=HL.out;rw [ek]at az;have aB:=hZ az;clear az HL;go_wp2
   go_ret;exact⟨_,_,_,rfl,aB.out.1,aB.out.2⟩
end
section
open Go.RowKit
attribute [local go_sem] Go.World.cell?_alloc_some
def u8s(l:List Nat):List Value:=l.map fun(x:Nat)=> .int .u8(x:Int)
theorem E0(l:List Nat):(u8s l).length=l.length:=by simp [u8s]
theorem Cx(l:List Nat)(x:Nat):u8s(l++ [x])=u8s l++ [.int .u8(x:Int)]:=by simp [u8s]
theorem Fo:((Tryz.prog.info? 5).map fun i=>(i.zero,i.size,i.bytes))=some(some(.int .u8 0),1,1):=by kernel_rfl
def RowM(w:World)(base:Nat)(v:Value)(n:Nat)(xs:List Value):Prop:=
 w.ownsRow base 5 1 v n xs\/∃ g cur,v= .slice(some⟨g,0,none⟩)n n/\base<=g/\w.heap[g]?=some(.cells cur 5(n,n+1))/\cur.toList=xs/\xs.length=n
section
variable {w w' : World} {base n : Nat} {v : Value} {xs : List Value}
theorem RowM.form(h:RowM w base v n xs):∃ ao c,v= .slice ao n c:=by
 rcases h with h | ⟨g,cur,rfl,_⟩
 ·obtain⟨x1,x2,x3,rfl⟩:=iq h;exact⟨x1,x3,by rw [iy h]⟩
 ·exact⟨_,_,rfl⟩
theorem RowM.block(h:RowM w base v n xs):∀ k,v.ownBlock=some k->base<=k:=by
 rcases h with h | ⟨g,cur,rfl,hb,_⟩
 ·exact iw h
 ·intro k hk;simp only [Value.ownBlock,Option.some.injEq]at hk;omega
theorem RowM.lt(h:RowM w base v n xs):∀ k,v.ownBlock=some k->k<w.heap.size:=by
 rcases h with h | ⟨g,cur,rfl,_,hg,_⟩
 ·exact vV h
 ·intro k hk;simp only [Value.ownBlock,Option.some.injEq]at hk;subst hk;exact(Array.getElem?_eq_some_iff.1 hg).1
theorem RowM.keep(h:RowM w base v n xs)(hb:∀ k,v.ownBlock=some k->w'.heap[k]?=w.heap[k]?):RowM w' base v n xs:=by
 rcases h with h | ⟨g,cur,rfl,hbg,hg,h4⟩
 ·refine Or.inl⟨h.1, ?_⟩;rcases h.2 with e | ⟨g,cap,cur,rfl,hbg,hg,h4⟩
  ·exact Or.inl e
  ·exact Or.inr⟨g,cap,cur,rfl,hbg,by rw [hb g rfl];exact hg,h4⟩
 ·exact Or.inr⟨g,cur,rfl,hbg,by rw [hb g rfl];exact hg,h4⟩
theorem RowM.alloc {o:Obj}(h:RowM w base v n xs):RowM(w.alloc o)base v n xs:=h.keep fun k hk=>Below.heap_alloc _ _ _(h.lt k hk)
theorem RowM.len(h:RowM w base v n xs):xs.length=n:=by
 rcases h with h | ⟨g,cur,rfl,hbg,hg,_,h4⟩
 ·simpa using h.1
 ·exact h4
theorem RowM.cells(h:RowM w base v n xs) {g:Nat}(hg:v.ownBlock=some g):∀ j u,xs[j]?=some u->w.cell?⟨g,j,none⟩=some u:=by
 intro j u hu;rcases h with h | ⟨g',cur,rfl,_,hg',hc,_⟩
 ·have:=h.cells hg j u hu;have aa:(⟨g,0,none⟩:Addr).add j=⟨g,j,none⟩:=by unfold Addr.add;split<;>simp_all
  rwa [aa]at this
 ·simp only [Value.ownBlock,Option.some.injEq]at hg;subst hg;subst hc;simpa [World.cell?,hg']using hu
end
theorem mQ {o:Oper} {a:Act} {K:Act->World->Prop} {Q:Exit->Act->World->Prop}(w:World)(s x:Operand)
  (ho:o.op= .call { callee:= .builtin .append,args:= #[s,x],argTypes:= #[147,147] })(base:Nat)(v:Value)(n:Nat)(xs:List Value)(hs:a.eval s=v)(ac:RowM w base v n xs)
  (g0:Nat)(y:Value)(hx:a.eval x= .slice(some⟨g0,0,none⟩)1 1)(ah:w.heap[g0]?=some(.cells #[y]5(0,0)))(h1:y.oneCell'=true)(hn:n<=2000000)(ab:base<=w.heap.size)(H:Nat)(hH:w.heap.size=H)
  (h:∀ g cap w',w'.ownsRow base 5 1(.slice(some⟨g,0,none⟩)(n+1)cap)(n+1)(xs++ [y])->w.grownBy w' v.ownBlock->(v.ownBlock=some g\/g=H)->g<w'.heap.size->K(a.put o.dst(.slice(some⟨g,0,none⟩)(n+1)cap))w'):
  o.wp Tryz.prog a w K Q:=by
 obtain⟨i0,ai,aj,af,al⟩:=info_parts Fo;have ak:n+1<=maxLen:=by unfold maxLen;omega
 have aa:∀ j u, [y][j]?=some u->w.cell?((⟨g0,0,none⟩:Addr).add j)=some u:=World.news_of_block(cs:= #[y])ah;rcases ac with ac | ⟨g,cur,rfl,hb,hg,hcur,hl⟩
 ·exact wp_append_lies w s x _ ho base 5 i0 _ 1 1 Tryz.underlying147 ai aj af al rfl(by omega)v n xs hs ac⟨g0,0,none⟩1 1 [y]hx rfl aa(by simpa using h1)(by omega)ak(by omega)ab H hH h
 ·have ad:∀ j u,xs[j]?=some u->w.cell?((⟨g,0,none⟩:Addr).add j)=some u:=fun j u hu=>by
   have ag:(⟨g,0,none⟩:Addr).add j=⟨g,j,none⟩:=by unfold Addr.add;split<;>simp_all
   rw [ag];exact RowM.cells(v:= .slice(some⟨g,0,none⟩)n n)(base:=base)(n:=n)(Or.inr⟨g,cur,rfl,hb,hg,hcur,hl⟩)rfl j u hu
  have hr:=run_append_grow(P:=Tryz.prog)w 147 o.type 5 i0 _ Tryz.underlying147 ai aj⟨g,0,none⟩n n xs(by rw [af];omega)ad⟨g0,0,none⟩1 1 [y](by rw [af];rfl)aa(by omega)(by omega)(growslice_fits(by omega)(by rw [al];omega));have an:=grownCap_ge w(n+1)n 5;have am:grownCap w(n+1)n 5<=maxLen:=grownCap_le_maxLen w(n+1)n 5 ak;have ae:(xs++ [y]).length=(n+1)*1:=by simp [hl]
  unfold Oper.wp execOp;simp only [ho,resolve,invoke,builtin,Sem.run_bind,Sem.run_pure,Result.andThen_ok,List.map_toArray,List.map_cons,List.map_nil,hs,hx,hr];refine h _ _ _⟨ae, .inr⟨w.heap.size,_,_,rfl,ab,heap_alloc_new w.drew _,an,am, ?_, ?_⟩⟩⟨rfl,rfl,rfl,by simp,fun k hk _=>Below.heap_alloc w.drew _ _ hk⟩(Or.inr hH)(by simp)
  ·have af:(Value.int IntKind.u8 0).cells.size=1:=rfl;simp only [Array.size_append,List.size_toArray,size_zeroCells,af,hl,List.length_singleton];omega
  ·simp only [Array.toList_append,List.append_assoc];rw [<-List.append_assoc,<-ae];exact List.take_left
theorem oF {ops:Array Oper} {rest:List Oper} {o:Oper} {a:Act} {Q:Exit->Act->World->Prop}(w:World)(hgd:o.guard=none)(s x:Operand)
  (ho:o.op= .call { callee:= .builtin .append,args:= #[s,x],argTypes:= #[147,147] })(base:Nat)(v:Value)(n:Nat)(xs:List Value)(hs:a.eval s=v)(hown:RowM w base v n xs)
  (g0:Nat)(y:Value)(hx:a.eval x= .slice(some⟨g0,0,none⟩)1 1)(hblk:w.heap[g0]?=some(.cells #[y]5(0,0)))(h1:y.oneCell'=true)(hn:n<=2000000)(hbase:base<=w.heap.size)(H:Nat)(hH:w.heap.size=H)
  (h:∀ g cap w',w'.ownsRow base 5 1(.slice(some⟨g,0,none⟩)(n+1)cap)(n+1)(xs++ [y])->w.grownBy w' v.ownBlock->(v.ownBlock=some g\/g=H)->g<w'.heap.size->wpList Tryz.prog ops Q rest(a.put o.dst(.slice(some⟨g,0,none⟩)(n+1)cap))w'):
  wpList Tryz.prog ops Q(o::rest)a w:=
 wpList_plain hgd fun _ hK=>mQ w s x ho base v n xs hs hown g0 y hx hblk h1 hn hbase H hH fun g cap w' h2 h3 h4 h5=>hK _ _(h g cap w' h2 h3 h4 h5)
def bs(l:List Nat):ByteArray:=strOfNums(l.map fun(x:Nat)=>(x:Int))
theorem sH(l:List Nat):(bs l).size=l.length:=by unfold bs;rw [strOfNums_size];simp
theorem yu {l:List Nat}(h:∀ x∈l,x<256):byt(bs l)=l:=by
 unfold byt bs;rw [strOfNums_data,List.map_map,List.map_map];conv=>rhs;rw [<-List.map_id l]
 refine List.map_congr_left fun x hx=> ?_
 have:=h x hx;simp;omega
theorem RowM.str {w:World} {base n:Nat} {v:Value} {l:List Nat}(h:RowM w base v n(u8s l)):(convert 147 9 v).run Tryz.prog w= .ok(.string(bs l))w:=by
 have hl:=h.len;rw [E0]at hl;subst hl;have aa:∀ g,v.ownBlock=some g->∀ i,i<l.length->w.cell?⟨g,0+i,none⟩=some(.int .u8((l.map fun(x:Nat)=>(x:Int)).getD i 0)):=fun g hg i hi=>by
  have:=h.cells hg i(.int .u8(l[i]:Nat))(by simp [u8s,hi]);rw [Nat.zero_add,this];simp [List.getD,hi]
 rcases h with h | ⟨g,cur,rfl,_⟩
 ·rcases h.2 with⟨rfl,e⟩ | ⟨g,cap,cur,rfl,_⟩
  ·have:l= []:=List.eq_nil_of_length_eq_zero e;subst this;exact run_convert_bytes_nil w _ _ Tryz.underlying147 Tryz.underlying5 0 0 _ Tryz.underlying9
  ·exact run_convert_bytes_arg w _ _ Tryz.underlying147 Tryz.underlying5 g 0 l.length cap _(by simp)(aa g rfl)_ Tryz.underlying9
 ·exact run_convert_bytes_arg w _ _ Tryz.underlying147 Tryz.underlying5 g 0 l.length _ _(by simp)(aa g rfl)_ Tryz.underlying9
structure WrS(W:World)(w:World)(b:Nat)(bv:Value)(l:List Nat):Prop where
 blk:w.heap[b]?=some(.cells #[bv]172(0,0))
 row:RowM w W.heap.size bv l.length(u8s l)
 ne:bv.ownBlock≠some b
 lo:W.heap.size<=b
 base:W.grownBy w none
theorem WrS.cell {W w:World} {b:Nat} {bv:Value} {l:List Nat}(h:WrS W w b bv l):w.cell?⟨b,0,none⟩=some bv:=by have:=h.blk;simp [World.cell?,this]
theorem WrS.free {W w:World} {b:Nat} {bv:Value} {l:List Nat}(h:WrS W w b bv l):w.frozen?⟨b,0,none⟩=false:=by have:=h.blk;simp [World.frozen?,this]
theorem WrS.lt {W w:World} {b:Nat} {bv:Value} {l:List Nat}(h:WrS W w b bv l):b<w.heap.size:=(Array.getElem?_eq_some_iff.1 h.blk).1
theorem WrS.grown {W w w':World} {b:Nat} {bv:Value} {l:List Nat}(h:WrS W w b bv l)(hg:w.grownBy w' none):WrS W w' b bv l:=
 ⟨by rw [hg.block b h.lt(by simp)];exact h.blk,h.row.keep(fun k hk=>hg.block k(h.row.lt k hk)(by simp)),h.ne,h.lo,ic h.base hg⟩
structure WrT(w0 w:World)(b:Nat)(bv0 bv:Value):Prop where
 keep:∀ k,k<w0.heap.size->k≠b->bv0.ownBlock≠some k->w.heap[k]?=w0.heap[k]?
 own:∀ g,bv.ownBlock=some g->bv0.ownBlock=some g\/w0.heap.size<=g
 size:w0.heap.size<=w.heap.size
theorem WrT.refl(w:World)(b:Nat)(bv:Value):WrT w w b bv bv:=⟨fun _ _ _ _=>rfl,fun _ h=>Or.inl h,Nat.le_refl _⟩
theorem WrT.trans {w0 w1 w2:World} {b:Nat} {v0 v1 v2:Value}(h:WrT w0 w1 b v0 v1)(h':WrT w1 w2 b v1 v2):WrT w0 w2 b v0 v2:=by
 refine⟨fun k hk hb ho=> ?_,fun g hg=> ?_,Nat.le_trans h.size h'.size⟩
 ·rw [h'.keep k(Nat.lt_of_lt_of_le hk h.size)hb(fun e=>by rcases h.own k e with e2 | e2;exact ho e2;omega)];exact h.keep k hk hb ho
 ·rcases h'.own g hg with e | e
  ·exact h.own g e
  ·exact Or.inr(Nat.le_trans h.size e)
theorem WrT.grown {w0 w1 w2:World} {b:Nat} {v0 v1:Value}(h:WrT w0 w1 b v0 v1)(hg:w1.grownBy w2 none):WrT w0 w2 b v0 v1:=
 ⟨fun k hk hb ho=>by rw [hg.block k(Nat.lt_of_lt_of_le hk h.size)(by simp)];exact h.keep k hk hb ho,h.own,Nat.le_trans h.size hg.size⟩
theorem WrS.push {W w w6:World} {b:Nat} {bv:Value} {l:List Nat} {o:Obj} {g6 c6 x:Nat}(h:WrS W w b bv l)(ab:w6.ownsRow W.heap.size 5 1(.slice(some⟨g6,0,none⟩)(l.length+1)c6)(l.length+1)(u8s l++ [.int .u8 x]))
  (hg:(w.alloc o).grownBy w6 bv.ownBlock)(ac:bv.ownBlock=some g6\/g6=w.heap.size+1):WrS W(w6.setCell⟨b,0,none⟩(.slice(some⟨g6,0,none⟩)(l.length+1)c6))b(.slice(some⟨g6,0,none⟩)(l.length+1)c6)(l++ [x])/\
  w6.cell?⟨b,0,none⟩=some bv/\w6.frozen?⟨b,0,none⟩=false/\WrT w(w6.setCell⟨b,0,none⟩(.slice(some⟨g6,0,none⟩)(l.length+1)c6))b bv(.slice(some⟨g6,0,none⟩)(l.length+1)c6):=by
 have hb:=h.lt;have aa:w6.heap[b]?=some(.cells #[bv]172(0,0)):=by
  rw [hg.block b(by simp;omega)(fun e=>h.ne e.symm),Below.heap_alloc _ _ _ hb];exact h.blk
 have ad:g6≠b:=by
  rcases ac with e | e
  ·intro e2;exact h.ne(by rw [e,e2])
  ·omega
 refine⟨⟨?_, ?_,by simpa [Value.ownBlock]using ad,h.lo, ?_⟩,by simp [World.cell?,aa],by simp [World.frozen?,aa],fun k hk hb' ho=> ?_,fun g hg'=> ?_, ?_⟩
 ·rw [heap_setCell_same _ b 0 _ _ _ aa];rfl
 ·refine Or.inl(ownsRow_setCell_other ?_(by simpa [Value.ownBlock]using ad)_);rw [Cx];simpa using ab
 ·exact iC(jD(ij h.base)hg h.row.block)h.lo
 ·rw [heap_setCell_other _ _ _ _ hb',hg.block k(by simp;omega)(fun e=>ho e.symm),Below.heap_alloc _ _ _ hk]
 ·simp only [Value.ownBlock,Option.some.injEq]at hg';rcases ac with e | e
  ·exact Or.inl(by rw [e,hg'])
  ·exact Or.inr(by omega)
 ·have:=hg.size;simp at this ⊢;omega
theorem GO(x:Nat)(h:x<256):x ||| 128=x % 128+128:=by
 have:∀ x:_root_.Fin 256,x.val ||| 128=x.val % 128+128:=by decide+kernel
 exact this⟨x,h⟩
theorem DS(n:Nat):∀ k,n<128 ^ (k+1)->(jT n).length<=k+1:=by
 induction n using Nat.strongRecOn with
 | ind n ih=>
  intro k hk;by_cases h:n<128
  ·rw [lY h];simp
  ·rw [nA h];cases k with
   | zero=>simp at hk;omega
   | succ k=>
    have:=ih(n / 128)(by omega)k(by rw [Nat.div_lt_iff_lt_mul(by decide)];rwa [Nat.pow_succ]at hk);simp;omega
theorem mR {n:Nat}(h:n<18446744073709551616):(jT n).length<=10:=by
 have h1:(128:Nat) ^ (9+1)=1180591620717411303424:=by decide
 exact DS n 9(by rw [h1];omega)
theorem xI(W:World)(b:Nat)(n:Nat)(hn:n<18446744073709551616):∀ (w:World)(bv:Value)(l:List Nat),WrS W w b bv l->l.length<=1000000->
  Calls Tryz.prog 169 #[pt b, .int .u64 n]w fun e w'=>(∃ v,e= .returned v)/\∃ bv',WrS W w' b bv'(l++jT n)/\WrT w w' b bv bv':=by
 intro w bv l h hl;have HH:=hZ h;have ah:pt b= .pointer(some⟨b,0,none⟩):=rfl;rw [ah];clear h ah;go_enter Tryz.func169,Tryz.ntmps169
 go_wp2_with fail
 go_loopw [1](fun i w'=>∃ (m:Nat)(bv':Value)(l':List Nat),i= .int .u64 m/\m<18446744073709551616/\Hid(WrS W w' b bv' l')/\Hid(WrT w w' b bv bv')/\Hid(l'++jT m=l++jT n))(fun i _=>(intOf i).toNat)
 case atStart=>exact⟨n,bv,l,rfl,hn,HH,hZ(WrT.refl _ _ _),hZ rfl⟩
 case round=>
  obtain⟨m,bv',l',rfl,hm,HW,HT,HE⟩:=hrel;obtain⟨w5,ag⟩:∃ w5,w5=wr:=⟨_,rfl⟩;rw [<-ag]at HW HT ⊢;clear ag;obtain⟨x1,x3,rfl⟩:=HW.out.row.form;have c0:=HW.out.cell;have hbs:W.heap.size<=w5.heap.size:=HW.out.base.size;have hob:=HW.out.row.block;have hl':l'.length<=1000100:=by
   have h1:=congrArg List.length HE.out;have:=mR hn;simp at h1;omega
  by_cases h128:127<m
  ·have q1:(127:Int)<(m:Int):=by omega
   have hor:bits .or .u8((m:Int) % 256)128=((m % 128+128:Nat):Int):=by
    have h1:((m:Int) % 256)=((m % 256:Nat):Int):=by omega
    have h2:=u8_or_nat(m % 256)128(by omega)(by omega);rw [h1];rw [GO _(by omega)]at h2;have h3:(((128:Nat):Int))=128:=rfl;rw [h3]at h2;rw [h2];congr 1
    omega
   have ae:Hid((l'++ [m % 128+128])++jT(m / 128)=l++jT n):=by
    have e:jT m=(m % 128+128)::jT(m / 128):=nA(by omega);unfold Hid;rw [<-HE.out,e];simp
   generalize m % 128+128=x at*;go_upto_region 2 with(at_builtin;refine oF _ rfl _ _ rfl W.heap.size(.slice x1 l'.length x3)l'.length(u8s l')rfl HW.out.row.alloc w5.heap.size(.int .u8(x:Int))rfl(heap_alloc_new w5 _)rfl(by omega)(by simp;omega)(w5.heap.size+1)(by simp) ?_;intro g6 af w6 ab aa ac ad;obtain⟨p1,p2,p3,p4⟩:=HW.out.push ab aa ac;have P1:=hZ p1;have P4:=hZ(HT.out.trans p4);clear p1 p4 ab aa ac ad)
   have q3:m / 128<m:=by omega
   go_wp2_with fail
   go_roundw
   case rel=>exact⟨m / 128,_,l'++ [x],by first | rfl | (congr 1;omega) | go_num,by omega,P1,P4,ae⟩
   case measure=>simp [intOf];omega
  ·have q1:¬(127:Int)<(m:Int):=by omega
   have hmod:(m:Int) % 256=m:=by omega
   have ae:Hid(l'++ [m]=l++jT n):=by unfold Hid;rw [<-HE.out,lY(by omega)]
   go_wp2_with(at_builtin;refine oF _ rfl _ _ rfl W.heap.size(.slice x1 l'.length x3)l'.length(u8s l')rfl HW.out.row.alloc w5.heap.size(.int .u8(m:Int))rfl(heap_alloc_new w5 _)rfl(by omega)(by simp;omega)(w5.heap.size+1)(by simp) ?_;intro g6 af w6 ab aa ac ad;obtain⟨p1,p2,p3,p4⟩:=HW.out.push ab aa ac;have P1:=hZ p1;have P4:=hZ(HT.out.trans p4);clear p1 p4 ab aa ac ad)
   go_end0
   exact⟨⟨_,rfl⟩,_,by rw [<-ae.out];exact P1.out,P4.out⟩
def uI(W w:World)(b:Nat)(bv:Value)(l:List Nat)(e:Ending)(w':World):Prop:=(∃ v,e= .returned v)/\∃ bv',WrS W w' b bv' l/\WrT w w' b bv bv'
theorem mp(W:World)(b:Nat)(n:Int)(h0:0<=n)(h1:n<=9223372036854775807)(w:World)(bv:Value)(l:List Nat)(h:WrS W w b bv l)(hl:l.length<=1000000):
  Calls Tryz.prog 133 #[pt b, .int .i64 n]w(uI W w b bv(l++js n)):=by
 obtain⟨m,rfl⟩:=Int.eq_ofNat_of_zero_le h0;have HN:=hZ(xI W b m(by omega)w bv l h hl);have aa:pt b= .pointer(some⟨b,0,none⟩):=rfl;rw [aa]at*;clear h;go_enter Tryz.func133,Tryz.ntmps133
 go_wp2_with(go_at_call 169;refine HN.out.mono ?_;rintro e w1⟨⟨v,rfl⟩,hw⟩)
 go_end0
 refine⟨⟨_,rfl⟩, ?_⟩;unfold js;rw [Int.toNat_natCast];exact hw
theorem x9(n x:Nat)(h:x<2 ^ n):(2 ^ n - 1) ^^^ x=2 ^ n - 1 - x:=by
 have e:2 ^ n - 1 - x=2 ^ n - (x+1):=by omega
 apply Nat.eq_of_testBit_eq;intro i;rw [Nat.testBit_xor,Nat.testBit_two_pow_sub_one,e,Nat.testBit_two_pow_sub_succ h];by_cases hi:i<n
 ·simp [hi]
 ·have:x.testBit i=false:=Nat.testBit_lt_two_pow(Nat.lt_of_lt_of_le h(Nat.pow_le_pow_right(by decide)(by omega)));simp [hi,this]
theorem FX(n:Int)(h0: -9223372036854775808<=n)(h1:n<0):bits .xor .u64 IntKind.u64.max(IntKind.u64.wrap(IntKind.u64.wrap n*2))= -2*n - 1:=by
 have e1:IntKind.u64.wrap n=n+18446744073709551616:=by
  simp only [IntKind.wrap,IntKind.signed,IntKind.bits];simp;omega
 have e2:IntKind.u64.wrap((n+18446744073709551616)*2)=2*n+18446744073709551616:=by
  simp only [IntKind.wrap,IntKind.signed,IntKind.bits];simp;omega
 rw [e1,e2];obtain⟨x,hx⟩:=Int.eq_ofNat_of_zero_le(show 0<=2*n+18446744073709551616 by omega);have hm:IntKind.u64.max=((18446744073709551615:Nat):Int):=rfl;rw [hx,hm,bits_xor_u64_nat _ _(by decide)(by omega)];have:=x9 64 x(by omega);have e3:(2:Nat) ^ 64 - 1=18446744073709551615:=by decide
 rw [e3]at this;rw [this];omega
theorem BX(W:World)(b:Nat)(n:Int)(h0: -9223372036854775808<=n)(h1:n<=9223372036854775807)(w:World)(bv:Value)(l:List Nat)(h:WrS W w b bv l)(hl:l.length<=1000000):
  Calls Tryz.prog 134 #[pt b, .int .i64 n]w(uI W w b bv(l++jT(zig n))):=by
 have hz:zig n<18446744073709551616:=by unfold zig;split<;>omega
 have HN:=hZ(xI W b(zig n)hz w bv l h hl);have ab:pt b= .pointer(some⟨b,0,none⟩):=rfl;rw [ab]at*;clear h;by_cases aa:n<0
 ·have HZ:Hid(((zig n:Nat):Int)= -2*n - 1):=by unfold Hid zig;rw [if_pos aa];omega
  go_enter Tryz.func134,Tryz.ntmps134
  go_wp2_with fail
  rw [FX n h0 aa,<-HZ.out];refine HN.out.mono ?_;rintro e w1⟨⟨v,rfl⟩,hw⟩;go_wp2_with fail
  go_end0
  exact⟨⟨_,rfl⟩,hw⟩
 ·have HZ:Hid(((zig n:Nat):Int)=2*n):=by unfold Hid zig;rw [if_neg aa];omega
  go_enter Tryz.func134,Tryz.ntmps134
  go_wp2_with fail
  have e2:n*2=((zig n:Nat):Int):=by rw [HZ.out];omega
  rw [e2];refine HN.out.mono ?_;rintro e w1⟨⟨v,rfl⟩,hw⟩;clear e2;go_wp2_with fail
  go_end0
  exact⟨⟨_,rfl⟩,hw⟩
theorem ly(s:ByteArray)(k:Nat)(h:k<s.size):(byt s).drop k=s[k].toNat::(byt s).drop(k+1):=by
 have hl:k<(byt s).length:=by rw [iP];exact h
 rw [List.drop_eq_getElem_cons hl];congr 1
 have:=mr s k h;rw [List.getElem?_eq_getElem hl]at this;exact Option.some.inj this
end
section
open Go.RowKit
attribute [local go_sem] Go.World.cell?_alloc_some
section
variable {P : Program} {ops : Array Oper} {Q : Exit -> Act -> World -> Prop} {S : World -> Prop} {n : Nat}
theorem rP {i j:Nat} {oi oj:Oper} {f:Nat} {aa:Array Bool} {a:Act} {w:World}(hi:ops[i]?=some oi)(hj:ops[j]?=some oj)
  (hr:Region.ready .any ops aa= [i,j])(ab:(decide(i<n)&& decide(j<n))=true)(ad:Region.wanted oi(yielded ops a.tmps)=true)(ae:Region.wanted oj(yielded ops a.tmps)=true)
  (h1:∀ K:Act->World->Prop,(∀ a' w',S w'->(HeadInv .any ops n(aa.setIfInBounds i true)->mF P ops Q S n f(aa.setIfInBounds i true)a' w')->K a' w')->oi.wp P a w K Q)
  (h2:∀ K:Act->World->Prop,(∀ a' w',S w'->(HeadInv .any ops n(aa.setIfInBounds j true)->mF P ops Q S n f(aa.setIfInBounds j true)a' w')->K a' w')->oj.wp P a w K Q):
  HeadInv .any ops n aa->mF P ops Q S n(f+1)aa a w:=by
 intro ac;simp only [Bool.and_eq_true,decide_eq_true_eq]at ab;refine⟨fun h=>(by rw [hr]at h;cases h),fun k hk=> ?_⟩;rw [hr]at hk;simp only [List.mem_cons,List.not_mem_nil,or_false]at hk;rcases hk with rfl | rfl
 ·refine⟨ab.1, ?_⟩;unfold wpOp;simp only [hi,ad,if_true];exact Or.inl(h1 _(fun a' w' hS hh=>⟨hS,hh(ac.set(by rw [hr];simp)ab.1)⟩))
 ·refine⟨ab.2, ?_⟩;unfold wpOp;simp only [hj,ae,if_true];exact Or.inl(h2 _(fun a' w' hS hh=>⟨hS,hh(ac.set(by rw [hr];simp)ab.2)⟩))
end
theorem sF {w:World} {g:Nat} {x:Nat}(h:w.cell?⟨g,0,none⟩=some(.int .u8(x:Int))):(convert 147 9(.slice(some⟨g,0,none⟩)1 1)).run Tryz.prog w= .ok(.string(bs [x]))w:=
 run_convert_bytes_arg w _ _ Tryz.underlying147 Tryz.underlying5 g 0 1 1 _(by simp)(fun i hi=>by
  have hi':i=0:=by simp at hi;omega
  subst hi';rw [Nat.add_zero,h];simp)_ Tryz.underlying9
theorem kG {w w':World}(h:w.drew.grownBy w' none):w.grownBy w' none:=⟨h.os,h.tape,h.output,h.size,h.block⟩
theorem zH(w:World)(x:Nat):(match(w.alloc(.cells #[.int .u8(x:Int)]5)).heap[w.heap.size]? with | some(.cells cs _ _)=>cs[0]? | _=>none)=some(.int .u8(x:Int)):=by rw [heap_alloc_new];rfl
theorem Gp(l m:List Nat):bs l++bs m=bs(l++m):=by
 apply ByteArray.ext;apply Array.ext';simp [bs,strOfNums_data]
theorem BV(l m:List Nat)(h:l.length+m.length<=9223372036854775807):Op.stringOp .add(bs l)(bs m)=pure(.string(bs(l++m))):=by
 unfold Op.stringOp;have:=sH l;have:=sH m;rw [if_neg(by simp only [IntKind.max,IntKind.signed,IntKind.bits];simp;omega),Gp]
theorem jG(n:Nat):∀ (w:World),n<18446744073709551616->Calls Tryz.prog 66 #[.int .u64 n]w fun e w'=>e= .returned(.string(bs(jT n)))/\w.grownBy w' none:=by
 induction n using Nat.strongRecOn with
 | ind n ih=>
  intro w hn;have ak:=hZ ih;clear ih;go_enter Tryz.func66,Tryz.ntmps66
  by_cases h:n<128
  ·have q1:(n:Int)<128:=by omega
   have hmod:(n:Int) % 256=n:=by omega
   have af:(convert 147 9(.slice(some⟨w.heap.size,0,none⟩)1 1)).run Tryz.prog(w.alloc(.cells #[.int .u8(n:Int)]5))= .ok(.string(bs [n]))(w.alloc(.cells #[.int .u8(n:Int)]5)):=sF(by simp only [World.cell?,heap_alloc_new];rfl);have ai:Hid(jT n= [n]):=lY h;go_wp2_with fail
   go_ret;exact⟨by rw [ai.out];rfl,ij(il _ _)⟩
  ·have q1:¬(n:Int)<128:=by omega
   have ai:Hid(jT n=(n % 128+128)::jT(n / 128)):=nA h;have HC:=hZ(fun w'=>ak.out(n / 128)(by omega)w'(by omega));go_wp2_with fail
   refine iu(fun _=>True)10(by kernel_rfl)(by kernel_rfl)trivial ?_;intro hHeld;refine hY(i:=0)(v:= ?vv0)rfl(by kernel_rfl)(fun _ _ _ h=>h)(Or.inl⟨by kernel_rfl, ?hy0⟩)trivial ?rest0
   case hy0=>(intro u hu;go_simp;try with_reducible rfl)
   simp only [Act.put,List.setIfInBounds_toArray];refine hY(i:=1)(v:= ?vv1)rfl(by kernel_rfl)(fun _ _ _ h=>h)(Or.inl⟨by kernel_rfl, ?hy1⟩)trivial ?rest1
   case hy1=>(intro u hu;go_simp;try with_reducible rfl)
   simp only [Act.put];refine hY(i:=2)(v:= ?vv2)rfl(by kernel_rfl)(fun _ _ _ h=>h)(Or.inl⟨by kernel_rfl, ?hy2⟩)trivial ?rest2
   case hy2=>(intro u hu;go_simp;try with_reducible rfl)
   simp only [Act.put];refine hY(i:=3)(v:= ?vv3)rfl(by kernel_rfl)(fun _ _ _ h=>h)(Or.inl⟨by kernel_rfl, ?hy3⟩)trivial ?rest3
   case hy3=>(intro u hu;go_simp;try with_reducible rfl)
   simp only [Act.put];refine hY(i:=6)(v:= ?vv6)rfl(by kernel_rfl)(fun _ _ _ h=>h)(Or.inl⟨by kernel_rfl, ?hy6⟩)trivial ?rest6
   case hy6=>(intro u hu;go_simp;try with_reducible rfl)
   simp only [Act.put];refine hY(i:=7)(v:= ?vv7)rfl(by kernel_rfl)(fun _ _ _ h=>h)(Or.inl⟨by kernel_rfl, ?hy7⟩)trivial ?rest7
   case hy7=>(intro u hu;go_simp;try with_reducible rfl)
   simp only [Act.put];have e1:IntKind.u8.wrap(IntKind.u64.wrap(128+(n:Int).tmod 128))=((n % 128+128:Nat):Int):=by
    have h1:(n:Int).tmod 128=((n % 128:Nat):Int):=by rw [Int.tmod_eq_emod_of_nonneg(by omega)];omega
    rw [h1];simp only [IntKind.wrap,IntKind.signed,IntKind.bits];simp;omega
   have e2:IntKind.u64.wrap((n:Int)/ 128)=((n / 128:Nat):Int):=by
    simp only [IntKind.wrap,IntKind.signed,IntKind.bits];simp;omega
   simp only [e1,e2];have hx:n % 128+128<256:=by omega
   have al:Hid((jT(n / 128)).length<=10):=mR(by omega);clear e1 e2;generalize hxx:n % 128+128=x at*;have hcat:=BV [x](jT(n / 128))(by have:=al.out;simp;omega);refine rP(i:=4)(j:=8)rfl rfl(by kernel_rfl)(by kernel_rfl)(by kernel_rfl)(by kernel_rfl) ?_ ?_
   ·intro K4 aj;have ag:=hZ aj;clear aj;go_simp;refine ag.out _ _ trivial ?_;clear ag;try simp only [Act.put,List.setIfInBounds_toArray]
    have af:(convert 147 9(.slice(some⟨w.heap.size,0,none⟩)1 1)).run Tryz.prog(w.alloc(.cells #[.int .u8(x:Int)]5)).drew= .ok(.string(bs [x]))(w.alloc(.cells #[.int .u8(x:Int)]5)).drew:=sF(by simp only [World.cell?];exact zH w x);refine rP(i:=5)(j:=8)rfl rfl(by kernel_rfl)(by kernel_rfl)(by kernel_rfl)(by kernel_rfl) ?_ ?_
    ·intro K5 ae;have ab:=hZ ae;clear ae;go_simp;refine ab.out _ _ trivial ?_;clear ab af;try simp only [Act.put,List.setIfInBounds_toArray]
     refine ip(i:=8)rfl(by kernel_rfl)(by kernel_rfl)(by kernel_rfl) ?_;intro K8 ac;have ad:=hZ ac;clear ac;go_simp;refine(HC.out _).mono ?_;rintro e w2⟨rfl,aa⟩;have ah:Hid(w.grownBy w2 none):=ic(ij(il _ _))(kG aa);refine ad.out _ _ trivial ?_;clear ad aa;try simp only [Act.put,List.setIfInBounds_toArray]
     refine hY(i:=9)(v:= ?vv9a)rfl(by kernel_rfl)(fun _ _ _ h=>h)(Or.inl⟨by kernel_rfl, ?hy9a⟩)trivial ?rest9a
     case hy9a=>(intro u hu;go_simp;try with_reducible rfl)
     simp only [Act.put,List.setIfInBounds_toArray];refine iE rfl(by kernel_rfl)(by kernel_rfl)(by kernel_rfl) ?_;go_simp;go_wp2_with fail
     go_ret;exact⟨by rw [ai.out];rfl,ah.out⟩
    ·intro K8 ac;have ad:=hZ ac;clear ac;go_simp;refine(HC.out _).mono ?_;rintro e w2⟨rfl,aa⟩;have ah:Hid(w.grownBy w2 none):=ic(ij(il _ _))(kG aa);have af:(convert 147 9(.slice(some⟨w.heap.size,0,none⟩)1 1)).run Tryz.prog w2= .ok(.string(bs [x]))w2:=sF(ie(kG aa)_ _(by simp only [World.cell?];exact zH w x));refine ad.out _ _ trivial ?_;clear ad aa;try simp only [Act.put,List.setIfInBounds_toArray]
     refine ip(i:=5)rfl(by kernel_rfl)(by kernel_rfl)(by kernel_rfl) ?_;intro K5 ae;have ab:=hZ ae;clear ae;go_simp;refine ab.out _ _ trivial ?_;clear ab af;try simp only [Act.put,List.setIfInBounds_toArray]
     refine hY(i:=9)(v:= ?vv9b)rfl(by kernel_rfl)(fun _ _ _ h=>h)(Or.inl⟨by kernel_rfl, ?hy9b⟩)trivial ?rest9b
     case hy9b=>(intro u hu;go_simp;try with_reducible rfl)
     simp only [Act.put,List.setIfInBounds_toArray];refine iE rfl(by kernel_rfl)(by kernel_rfl)(by kernel_rfl) ?_;go_simp;go_wp2_with fail
     go_ret;exact⟨by rw [ai.out];rfl,ah.out⟩
   ·intro K8 ac;have ad:=hZ ac;clear ac;go_simp;refine(HC.out _).mono ?_;rintro e w2⟨rfl,aa⟩;have ah:Hid(w.grownBy w2 none):=kG aa;have af:(convert 147 9(.slice(some⟨w2.heap.size,0,none⟩)1 1)).run Tryz.prog(w2.alloc(.cells #[.int .u8(x:Int)]5))= .ok(.string(bs [x]))(w2.alloc(.cells #[.int .u8(x:Int)]5)):=sF(by simp only [World.cell?];exact zH w2 x);refine ad.out _ _ trivial ?_;clear ad aa;try simp only [Act.put,List.setIfInBounds_toArray]
    refine ip(i:=4)rfl(by kernel_rfl)(by kernel_rfl)(by kernel_rfl) ?_;intro K4 aj;have ag:=hZ aj;clear aj;go_simp;refine ag.out _ _ trivial ?_;clear ag;try simp only [Act.put,List.setIfInBounds_toArray]
    refine ip(i:=5)rfl(by kernel_rfl)(by kernel_rfl)(by kernel_rfl) ?_;intro K5 ae;have ab:=hZ ae;clear ae;go_simp;refine ab.out _ _ trivial ?_;clear ab af;try simp only [Act.put,List.setIfInBounds_toArray]
    refine hY(i:=9)(v:= ?vv9c)rfl(by kernel_rfl)(fun _ _ _ h=>h)(Or.inl⟨by kernel_rfl, ?hy9c⟩)trivial ?rest9c
    case hy9c=>(intro u hu;go_simp;try with_reducible rfl)
    simp only [Act.put,List.setIfInBounds_toArray];refine iE rfl(by kernel_rfl)(by kernel_rfl)(by kernel_rfl) ?_;go_simp;go_wp2_with fail
    go_ret;exact⟨by rw [ai.out];rfl,ij ah.out⟩
theorem D8(a b:Nat)(ha:a<4294967296)(hb:b<4294967296):bits .xor .i64(a:Int)(b:Int)=((a ^^^ b:Nat):Int):=by
 have hx:a ^^^ b<2 ^ 32:=Nat.xor_lt_two_pow(by omega)(by omega);have h1:(BitVec.ofInt 64(a:Int)).toNat=a:=by
  rw [BitVec.ofInt_natCast,BitVec.toNat_ofNat];exact Nat.mod_eq_of_lt(by omega)
 have h2:(BitVec.ofInt 64(b:Int)).toNat=b:=by
  rw [BitVec.ofInt_natCast,BitVec.toNat_ofNat];exact Nat.mod_eq_of_lt(by omega)
 show IntKind.i64.wrap((BitVec.ofInt 64(a:Int) ^^^ BitVec.ofInt 64(b:Int)).toNat:Int)=_
 rw [BitVec.toNat_xor,h1,h2];simp only [IntKind.wrap,IntKind.signed,IntKind.bits];simp;omega
theorem BD(n:Int)(w:World)(h0: -9223372036854775808<=n)(h1:n<=9223372036854775807):Calls Tryz.prog 67 #[.int .i64 n]w fun e w'=>e= .returned(.int .u64(zig n:Nat))/\w'=w:=by
 go_enter Tryz.func67,Tryz.ntmps67
 by_cases h:n<0
 ·have HZ:Hid(((zig n:Nat):Int)= -2*n - 1):=by unfold Hid zig;rw [if_pos h];omega
  go_wp2_with fail
  go_ret;exact⟨by rw [HZ.out,show -2*n - 1=2* -(n+1)+1 by omega];rfl,rfl⟩
 ·have HZ:Hid(((zig n:Nat):Int)=2*n):=by unfold Hid zig;rw [if_neg h];omega
  go_wp2_with fail
  go_ret;exact⟨by rw [HZ.out];rfl,rfl⟩
theorem Dc(s:ByteArray)(w:World)(hs:s.size<=9223372036854775806):Calls Tryz.prog 69 #[.string s]w fun e w'=>e= .returned(.int .i64(lF(byt s):Nat))/\w'=w:=by
 have q0:(s.size:Int)<=9223372036854775806:=by omega
 have af:Hid((byt s).length=s.size):=iP s;have HB256:Hid(∀ b∈byt s,b<256):=fun b hb=>vM s b hb
 have H0:Hid(sw 4294967295((byt s).take 0)=4294967295):=rfl;go_enter Tryz.func69,Tryz.ntmps69
 go_wp2_with fail
 go_loopw [3,4](fun vv iv w'=>∃ (i v:Nat),i<=s.size/\v<4294967296/\iv= .int .i64 i/\vv= .int .i64 v/\w'=w/\Hid(sw 4294967295((byt s).take i)=v))(fun _ iv _=>s.size - (intOf iv).toNat)
 case atStart=>exact⟨0,4294967295,Nat.zero_le _,by omega,rfl,rfl,rfl,H0⟩
 case round=>
  clear H0;obtain⟨i,v,hi,hv,rfl,rfl,hw,HV⟩:=hrel;subst hw;by_cases al:i<s.size
  ·have t0:(0:Int)<=(i:Int):=by omega
   have t1:(i:Int)<s.size:=by omega
   obtain⟨c,hc⟩:∃ c,c=s[i].toNat:=⟨_,rfl⟩;have aa:c<256:=by rw [hc];exact UInt8.toNat_lt _
   have ak:Hid(sw 4294967295((byt s).take(i+1))=(ma 8(v,c)).1):=by
    unfold Hid;have ai:i<(byt s).length:=by rw [af.out];exact al
    rw [List.take_succ_eq_append_getElem ai,sh,HV.out,yf v c aa];have:(byt s)[i]=c:=by rw [hc];simp [byt];rfl
    simp [sw,this]
   have ah:s[i].toNat=c:=hc.symm;clear hc;go_upto_region 6 with fail
   clear ah;go_wp2_with fail
   go_loopw [3,5,6](fun vv cv kv w'=>∃ k:Nat,k<=8/\kv= .int .i64 k/\vv= .int .i64((ma k(v,c)).1:Nat)/\cv= .int .i64((ma k(v,c)).2:Nat)/\w'=wr)(fun _ _ kv _=>8 - (intOf kv).toNat)
   case atStart=>exact⟨0,Nat.zero_le _,rfl,rfl,rfl,rfl⟩
   case round=>
    obtain⟨k,hk,rfl,rfl,rfl,hw⟩:=hrel;subst hw;by_cases hk8:k<8
    ·have t2:(k:Int)<8:=by omega
     obtain⟨ad,aj⟩:=xV k v c hv aa;have ac:Hid(ma(k+1)(v,c)=ud(ma k(v,c))):=rfl;generalize ma k(v,c)=x at*;obtain⟨x1,x2⟩:=x;simp only at ad aj ⊢;by_cases ho:(x1+x2) % 2=1
     ·have hl:Int.tmod((x1:Int)+(x2:Int))2=1:=by rw [Int.tmod_eq_emod_of_nonneg(by omega)];omega
      have hxr:bits .xor .i64((x1:Int)/ 2)3988292384=(((x1 / 2) ^^^ 3988292384:Nat):Int):=by
       have:=D8(x1 / 2)3988292384(by omega)(by omega);rw [<-this];congr 1<;>omega
      have ab:Hid(ud(x1,x2)=((x1 / 2) ^^^ 3988292384,x2 / 2)):=by unfold Hid ud;simp only;rw [if_pos ho]
      clear ho;go_wp2_with fail
      go_roundw
      case rel=>exact⟨k+1,by omega,by go_num,by rw [ac.out,ab.out],by rw [ac.out,ab.out];simp,by first | rfl | trivial⟩
      case measure=>simp [intOf];omega
     ·have hl:Int.tmod((x1:Int)+(x2:Int))2=0:=by rw [Int.tmod_eq_emod_of_nonneg(by omega)];omega
      have ab:Hid(ud(x1,x2)=(x1 / 2,x2 / 2)):=by unfold Hid ud;simp only;rw [if_neg ho]
      clear ho;go_wp2_with fail
      go_roundw
      case rel=>exact⟨k+1,by omega,by go_num,by rw [ac.out,ab.out];simp,by rw [ac.out,ab.out];simp,by first | rfl | trivial⟩
      case measure=>simp [intOf];omega
    ·have t2:(8:Int)<=(k:Int):=by omega
     have ag:k=8:=by omega
     subst ag;have ad:=(xV 8 v c hv aa).1;go_wp2_with fail
     go_roundw
     case rel=>exact⟨i+1,(ma 8(v,c)).1,by omega,ad,by go_num,by first | rfl | trivial,by first | rfl | trivial,ak⟩
     case measure=>simp [intOf];omega
  ·have t1:(s.size:Int)<=(i:Int):=by omega
   have ae:i=s.size:=by omega
   have HE:Hid(((lF(byt s):Nat):Int)=4294967295 - (v:Int)):=by
    have h1:=HV.out;rw [ae,List.take_of_length_le(by rw [af.out];omega)]at h1;unfold Hid lF;rw [h1,CJ v hv];omega
   clear ae;go_wp2_with fail
   go_ret;exact⟨by rw [HE.out];rfl,rfl⟩
end
section
open Go.RowKit
attribute [local go_sem] Go.World.cell?_alloc_some
def RdG(w:World)(b:Nat)(s:ByteArray)(l:List Nat)(bad:Bool):Prop:=
 ∃ k:Nat,w.heap[b]?=some(.cells #[.string s, .int .i64(k:Int), .bool bad]180(0,0))/\l=(byt s).drop k/\k<=s.size+3
theorem RdG.step {w w':World} {b:Nat} {s:ByteArray} {l:List Nat} {bad:Bool}(h:RdG w b s l bad)(e:w'.heap[b]?=w.heap[b]?):RdG w' b s l bad:=by
 obtain⟨k,h1,h2,h3⟩:=h;exact⟨k,by rw [e];exact h1,h2,h3⟩
theorem RdG.bad {w:World} {b:Nat} {s:ByteArray} {l:List Nat} {bad:Bool}(h:RdG w b s l bad):w.cell?⟨b,2,none⟩=some(.bool bad):=by
 obtain⟨k,h1,h2,h3⟩:=h;simp [World.cell?,h1]
theorem tJ {w:World} {b:Nat} {x0 x1 x2:Value} {t:TypeId}(h:w.heap[b]?=some(.cells #[x0,x1,x2]t(0,0))):w.cell?⟨b,0,none⟩=some x0/\w.cell?⟨b,1,none⟩=some x1/\w.cell?⟨b,2,none⟩=some x2/\w.frozen?⟨b,1,none⟩=false/\w.frozen?⟨b,2,none⟩=false:=by
 simp [World.cell?,World.frozen?,h]
theorem jK(w:World)(b o:Nat)(v:Value):w.grownBy(w.setCell⟨b,o,none⟩v)(some b):=
 ⟨rfl,rfl,rfl,by simp,fun k _ hk=>Below.heap_setCell _ _ _ _(fun e=>hk(by simp only at e;rw [e]))⟩
theorem FK(w:World)(b:Nat)(s:ByteArray)(l:List Nat)(bad:Bool)(h:RdG w b s l bad)(hs:s.size<=9223372036854775000):
  Calls Tryz.prog 99 #[pt b]w fun e w'=>e= .returned(.int .u64((mu 10 1 0 l).1:Nat))/\RdG w' b s(mu 10 1 0 l).2.1(bad || (mu 10 1 0 l).2.2)/\w.grownBy w'(some b):=by
 have H0:=hZ h;have ag:pt b= .pointer(some⟨b,0,none⟩):=rfl;rw [ag];clear h ag;go_enter Tryz.func99,Tryz.ntmps99
 go_wp2_with fail
 go_loopw [3,4,5](fun vv uv kv w'=>∃ (k v u:Nat)(l':List Nat),k<=10/\v<18446744073709551616/\u<18446744073709551616/\kv= .int .i64 k/\vv= .int .u64 v/\uv= .int .u64 u/\Hid(RdG w' b s l' bad/\mu(10 - k)u v l'=mu 10 1 0 l/\w.grownBy w'(some b)))(fun _ _ kv _=>10 - (intOf kv).toNat)
 case atStart=>exact⟨0,0,1,l,by omega,by omega,by omega,rfl,rfl,rfl,⟨H0.out,rfl,il _ _⟩⟩
 case round=>
  clear H0;obtain⟨k,v,u,l',hk,hv,hu,rfl,rfl,rfl,HI⟩:=hrel;obtain⟨w1,ae⟩:∃ w1,w1=wr:=⟨_,rfl⟩;rw [<-ae]at HI ⊢;clear ae;obtain⟨a,hb,hl,ha⟩:=HI.out.1;obtain⟨c0,c1,c2,f1,f2⟩:=tJ hb;have HB:=hZ hb;clear hb;have qa:(a:Int)<=9223372036854775003:=by omega
  by_cases hk10:k<10
  ·have t0:(k:Int)<10:=by omega
   obtain⟨j,hj⟩:∃ j,10 - k=j+1:=⟨9 - k,by omega⟩;by_cases ak:a<s.size
   ·have t1:(a:Int)<s.size:=by omega
    have t2:(0:Int)<=(a:Int):=by omega
    have HL:Hid(l'=s[a].toNat::(byt s).drop(a+1)):=by
     unfold Hid;rw [hl];have ai:a<(byt s).length:=by rw [iP];exact ak
     rw [List.drop_eq_getElem_cons ai];congr 1
     simp [byt];rfl
    obtain⟨c,hc⟩:∃ c,s[a].toNat=c:=⟨_,rfl⟩;have hc256:c<256:=by rw [<-hc];exact UInt8.toNat_lt _
    rw [hc]at HL;have hm:Int.tmod(c:Int)128=((c % 128:Nat):Int):=by rw [Int.tmod_eq_emod_of_nonneg(by omega)];omega
    have af:Hid(∀ w2,jr w2 w1->RdG(w2.setCell⟨b,1,none⟩(.int .i64((a:Int)+1)))b s((byt s).drop(a+1))bad/\w.grownBy(w2.setCell⟨b,1,none⟩(.int .i64((a:Int)+1)))(some b)):=fun w2 hl2=>by
     refine⟨⟨a+1, ?_,rfl,by omega⟩,ic(jd HI.out.2.2 hl2)(jK _ _ _ _)⟩;rw [heap_setCell_same w2 b 1 _ _ _(by rw [hl2.1];exact HB.out)];rfl
    have e1:IntKind.u64.wrap((v:Int)+IntKind.u64.wrap((u:Int)*((c:Int) % 128)))=(((v+u*(c % 128)) % 18446744073709551616:Nat):Int):=by
     have h1:(u:Int)*((c:Int) % 128)=((u*(c % 128):Nat):Int):=by push_cast;rfl
     rw [h1,IntKind.wrap_u64,IntKind.wrap_u64];omega
    have e2:IntKind.u64.wrap((u:Int)*128)=((u*128 % 18446744073709551616:Nat):Int):=by
     rw [IntKind.wrap_u64];omega
    have aa:=hZ HI.out.2.1;rw [hj,HL.out,mu]at aa;have al:(v+u*(c % 128)) % 18446744073709551616<18446744073709551616:=Nat.mod_lt _(by omega);have ah:u*128 % 18446744073709551616<18446744073709551616:=Nat.mod_lt _(by omega);generalize(v+u*(c % 128)) % 18446744073709551616=V at*;generalize u*128 % 18446744073709551616=U at*;by_cases ab:c<128
    ·rw [if_pos ab]at aa;have t3:(c:Int)<128:=by omega
     have ad:=hZ e1;clear e1 e2;go_upto_region 6 with fail
     go_quiet(fail)
     go_wp2_with fail
     go_quiet(fail)
     go_wp2_with fail
     go_ret;obtain⟨h1,h2⟩:=af.out _(lq w1 _);refine⟨?_, ?_,h2⟩
     ·rw [<-aa.out];simp only;rw [<-ad.out];rfl
     ·rw [<-aa.out];simp only [Bool.or_false];exact h1
    ·rw [if_neg ab]at aa;have t3:(128:Int)<=(c:Int):=by omega
     have ad:=hZ e1;have aj:=hZ e2;clear e1 e2;go_upto_region 6 with fail
     go_quiet(fail)
     go_wp2_with fail
     go_quiet(fail)
     go_wp2_with fail
     go_roundw
     case rel=>
      obtain⟨h1,h2⟩:=af.out _(lq w1 _);exact⟨k+1,V,U,(byt s).drop(a+1),by omega,al,ah,by go_num,by rw [<-ad.out],by rw [<-aj.out],⟨h1,by rw [show 10 - (k+1)=j by omega];exact aa.out,h2⟩⟩
     case measure=>simp [intOf];omega
   ·have t1:(s.size:Int)<=(a:Int):=by omega
    have HL:Hid(l'= []):=by unfold Hid;rw [hl];exact List.drop_eq_nil_of_le(by rw [iP];omega)
    have ac:Hid(∀ w2,jr w2 w1->RdG(w2.setCell⟨b,2,none⟩(.bool true))b s []true/\w.grownBy(w2.setCell⟨b,2,none⟩(.bool true))(some b)):=fun w2 hl2=>by
     refine⟨⟨a, ?_,by rw [<-hl,HL.out],ha⟩,ic(jd HI.out.2.2 hl2)(jK _ _ _ _)⟩;rw [heap_setCell_same w2 b 2 _ _ _(by rw [hl2.1];exact HB.out)];rfl
    have aa:=hZ HI.out.2.1;rw [hj,HL.out,mu]at aa;go_upto_region 6 with fail
    go_quiet(fail)
    go_wp2_with fail
    go_ret;obtain⟨h1,h2⟩:=ac.out _(lq w1 _);refine⟨?_, ?_,h2⟩
    ·rw [<-aa.out];rfl
    ·rw [<-aa.out];simp only [Bool.or_true];exact h1
  ·have t0:(10:Int)<=(k:Int):=by omega
   have ac:Hid(RdG(w1.setCell⟨b,2,none⟩(.bool true))b s l' true/\w.grownBy(w1.setCell⟨b,2,none⟩(.bool true))(some b)):=by
    refine⟨⟨a, ?_,hl,ha⟩,ic HI.out.2.2(jK _ _ _ _)⟩;rw [heap_setCell_same w1 b 2 _ _ _ HB.out];rfl
   have aa:=hZ HI.out.2.1;rw [show 10 - k=0 by omega,mu]at aa;go_wp2_with fail
   go_ret;obtain⟨h1,h2⟩:=ac.out;refine⟨?_, ?_,h2⟩
   ·rw [<-aa.out];rfl
   ·rw [<-aa.out];simp only [Bool.or_true];exact h1
theorem ny(w:World)(b:Nat)(s:ByteArray)(l:List Nat)(bad:Bool)(aa:Nat)(hmost:aa<=1000)(h:RdG w b s l bad)(hs:s.size<=9223372036854775000):
  Calls Tryz.prog 98 #[pt b, .int .i64(aa:Int)]w fun e w'=>e= .returned(.int .i64((iM aa l).1:Nat))/\RdG w' b s(iM aa l).2.1(bad || (iM aa l).2.2)/\w.grownBy w'(some b):=by
 have ac:=hZ(FK w b s l bad h hs);have ae:pt b= .pointer(some⟨b,0,none⟩):=rfl;rw [ae]at ac ⊢;clear h ae;have hv:=sC 10 1 0 l;go_enter Tryz.func98,Tryz.ntmps98
 go_wp2_with fail
 refine ac.out.mono ?_;clear ac;rintro e w1⟨rfl,hr,hg⟩;have HR:=hZ hr;have HG:=hZ hg;obtain⟨a,hb,hl,ha⟩:=hr;obtain⟨c0,c1,c2,f1,f2⟩:=tJ hb;have HB:=hZ hb;clear hb hg;have qm:(aa:Int)<=1000:=by omega
 have ab:Hid(iM aa l=if aa<(mu 10 1 0 l).1 then(0,(mu 10 1 0 l).2.1,true)else mu 10 1 0 l):=rfl;generalize mu 10 1 0 l=X at*;obtain⟨v,r,bd⟩:=X;simp only at hv hl HB HR ab c2 ⊢;by_cases ad:aa<v
 ·have t0:(aa:Int)<(v:Int):=by omega
  rw [if_pos ad]at ab;have af:Hid(RdG(w1.setCell⟨b,2,none⟩(.bool true))b s r true/\w.grownBy(w1.setCell⟨b,2,none⟩(.bool true))(some b)):=by
   refine⟨⟨a, ?_,hl,ha⟩,ic HG.out(jK _ _ _ _)⟩;rw [heap_setCell_same w1 b 2 _ _ _ HB.out];rfl
  go_wp2_with fail
  go_ret;rw [ab.out];obtain⟨h1,h2⟩:=af.out;exact⟨rfl,by simp only [Bool.or_true];exact h1,h2⟩
 ·have t0:(v:Int)<=(aa:Int):=by omega
  rw [if_neg ad]at ab;go_wp2_with fail
  go_ret;rw [ab.out];exact⟨rfl,HR.out,HG.out⟩
end
section
open Go.RowKit
structure GuS(W w:World)(b n5 n2 L:Nat)(s:ByteArray)(l:List Nat)(bad:Bool)(tv sv:Value)(v:Int × Int × Int)(p:List(List Ins))(sch:List Int):Prop where
 rd:RdG w b s l bad
 art:w.heap[n5]?=some(.cells #[tv,sv, .int .i64 v.1, .int .i64 v.2.1, .int .i64 v.2.2]56(0,0))
 res:w.heap[n2]?=some(.cells #[.slice none 0 0, .slice none 0 0, .int .i64 0, .int .i64 0, .int .i64 0]56(0,0))
 thr:ThrAt L w.heap.size w tv p
 row:w.ownsRow L 3 1 sv sch.length(iI sch)
 base:W.grownBy w none
 ord:W.heap.size<=n2/\n2<b/\b<n5/\L=n5+1
theorem ThrAt.same {L B:Nat} {w w':World} {tv:Value} {p:List(List Ins)}(h:ThrAt L B w tv p)(hb:∀ k cs t,w.heap[k]?=some(.cells cs t(0,0))->t≠3->L<=k->w'.heap[k]?=w.heap[k]?):ThrAt L B w' tv p:=by
 obtain⟨rows,h1,h2,h3,h4⟩:=h;refine⟨rows,iJ h1(fun g e=> ?_),h2,fun j hj=> ?_,h4⟩
 ·rcases h1.2 with⟨e1,_⟩ | ⟨g',cap,cur,hv,hlo,hh,_⟩
  ·rw [e1]at e;cases e
  ·rw [hv]at e;simp only [Value.ownBlock,Option.some.injEq]at e;subst e;exact hb _ _ _ hh(by decide)hlo
 ·obtain⟨rv,e1,e2,e3⟩:=h3 j hj;refine⟨rv,e1,iJ e2(fun g e=> ?_),e3⟩;rcases e2.2 with⟨e4,_⟩ | ⟨g',cap,cur,hv,hlo,hh,_⟩
  ·rw [e4]at e;cases e
  ·rw [hv]at e;simp only [Value.ownBlock,Option.some.injEq]at e;subst e;exact hb _ _ _ hh(by decide)hlo
section
variable {W w w' w6 : World} {b n5 n2 L : Nat} {s : ByteArray} {l l' : List Nat} {bad bad' : Bool} {tv sv : Value} {v : Int × Int × Int} {p : List (List Ins)} {sch : List Int}
theorem GuS.lt(h:GuS W w b n5 n2 L s l bad tv sv v p sch):b<w.heap.size/\n5<w.heap.size/\n2<w.heap.size:=by
 obtain⟨k,h1,_⟩:=h.rd;exact⟨(Array.getElem?_eq_some_iff.1 h1).1,(Array.getElem?_eq_some_iff.1 h.art).1,(Array.getElem?_eq_some_iff.1 h.res).1⟩
theorem GuS.acell(h:GuS W w b n5 n2 L s l bad tv sv v p sch):w.cell?⟨n5,0,none⟩=some tv/\w.cell?⟨n5,1,none⟩=some sv/\w.cell?⟨n5,2,none⟩=some(.int .i64 v.1)/\w.cell?⟨n5,3,none⟩=some(.int .i64 v.2.1)/\w.cell?⟨n5,4,none⟩=some(.int .i64 v.2.2)/\∀ o,w.frozen?⟨n5,o,none⟩=false:=by
 simp [World.cell?,World.frozen?,h.art]
theorem GuS.rcell(h:GuS W w b n5 n2 L s l bad tv sv v p sch):∀ o,w.frozen?⟨n2,o,none⟩=false:=by
 simp [World.frozen?,h.res]
theorem GuS.call(h:GuS W w b n5 n2 L s l bad tv sv v p sch)(hr:RdG w' b s l' bad')(hg:w.grownBy w'(some b)):GuS W w' b n5 n2 L s l' bad' tv sv v p sch:=by
 obtain⟨o1,o2,o3,o4⟩:=h.ord;refine⟨hr, ?_, ?_, ?_, ?_, ?_,h.ord⟩
 ·rw [hg.block n5 h.lt.2.1(by simp only [ne_eq,Option.some.injEq];omega)];exact h.art
 ·rw [hg.block n2 h.lt.2.2(by simp only [ne_eq,Option.some.injEq];omega)];exact h.res
 ·exact(h.thr.step hg(fun q e=>by simp only [Option.some.injEq]at e;omega)).mono hg.size
 ·exact kF h.row hg(fun k e e2=>by simp only [Option.some.injEq]at e;have:=iw h.row k e2;omega)
 ·exact⟨hg.os.trans h.base.os,hg.tape.trans h.base.tape,hg.output.trans h.base.output,Nat.le_trans h.base.size hg.size,fun k hk _=>by
   rw [hg.block k(Nat.lt_of_lt_of_le hk h.base.size)(fun e=>by simp only [Option.some.injEq]at e;omega)];exact h.base.block k hk(by simp)⟩
theorem GuS.like(h:GuS W w b n5 n2 L s l bad tv sv v p sch)(hl:jr w' w):GuS W w' b n5 n2 L s l bad tv sv v p sch:=
 h.call(h.rd.step(by rw [hl.1]))(iH hl)
theorem GuS.setA(h:GuS W w b n5 n2 L s l bad tv sv v p sch)(j:Nat)(x:Int)(v':Int × Int × Int)(hj:(j=2/\v'=(x,v.2.1,v.2.2))\/(j=3/\v'=(v.1,x,v.2.2))\/(j=4/\v'=(v.1,v.2.1,x))):GuS W(w.setCell⟨n5,j,none⟩(.int .i64 x))b n5 n2 L s l bad tv sv v' p sch:=by
 obtain⟨o1,o2,o3,o4⟩:=h.ord;have hg:=jK w n5 j(.int .i64 x);refine⟨h.rd.step(Below.heap_setCell _ _ _ _(by simp only;omega)), ?_, ?_, ?_, ?_, ?_,h.ord⟩
 ·rw [heap_setCell_same w n5 j _ _ _ h.art];rcases hj with⟨rfl,rfl⟩ | ⟨rfl,rfl⟩ | ⟨rfl,rfl⟩<;>rfl
 ·rw [Below.heap_setCell _ _ _ _(by simp only;omega)];exact h.res
 ·exact(h.thr.step hg(fun q e=>by simp only [Option.some.injEq]at e;omega)).mono hg.size
 ·exact kF h.row hg(fun k e e2=>by simp only [Option.some.injEq]at e;have:=iw h.row k e2;omega)
 ·exact iC h.base(by omega)
theorem GuS.push(h:GuS W w b n5 n2 L s l bad tv sv v p sch) {t:Int} {o:Obj} {g6 c6 N:Nat}(hN:N=sch.length)
  (ad:w6.ownsRow L 3 1(.slice(some⟨g6,0,none⟩)(N+1)c6)(N+1)(iI sch++ [.int .i64 t]))
  (key:(sv.ownBlock=some g6/\(w.alloc o).grownBy w6(some g6))\/(g6=w.heap.size+1/\(w.alloc o).grownBy w6 none)):
  (w6.cell?⟨n5,1,none⟩=some sv/\w6.frozen?⟨n5,1,none⟩=false)/\GuS W(w6.setCell⟨n5,1,none⟩(.slice(some⟨g6,0,none⟩)(N+1)c6))b n5 n2 L s l bad tv(.slice(some⟨g6,0,none⟩)(N+1)c6)v p(sch++ [t]):=by
 subst hN;obtain⟨o1,o2,o3,o4⟩:=h.ord;have hL6:L<=g6:=iw ad g6 rfl;have af:w.heap.size<=w6.heap.size:=by
  rcases key with⟨_,hg⟩ | ⟨_,hg⟩<;>(have:=hg.size;simp at this;omega)
 have aa:∀ k,k<w.heap.size->k≠g6->w6.heap[k]?=w.heap[k]?:=fun k hk hne=>by
  rcases key with⟨_,hg⟩ | ⟨_,hg⟩
  ·rw [hg.block k(by simp;omega)(by simpa using hne),Below.heap_alloc _ _ _ hk]
  ·rw [hg.block k(by simp;omega)(by simp),Below.heap_alloc _ _ _ hk]
 have ac:w6.heap[n5]?=some(.cells #[tv,sv, .int .i64 v.1, .int .i64 v.2.1, .int .i64 v.2.2]56(0,0)):=by rw [aa n5 h.lt.2.1(by omega)];exact h.art
 have ag:W.grownBy w6 none:=by
  rcases key with⟨_,hg⟩ | ⟨_,hg⟩
  ·exact⟨hg.os.trans h.base.os,hg.tape.trans h.base.tape,hg.output.trans h.base.output,Nat.le_trans h.base.size af,fun k hk _=>by
    rw [aa k(Nat.lt_of_lt_of_le hk h.base.size)(by omega)];exact h.base.block k hk(by simp)⟩
  ·exact ic h.base(ic(ij(il _ _))hg)
 have ae:ThrAt L w6.heap.size w6 tv p:=by
  refine(h.thr.same(fun k cs ty hk hty hlo=>aa k(Array.getElem?_eq_some_iff.1 hk).1(fun e=> ?_))).mono af;subst e;rcases key with⟨e,hg⟩ | ⟨e,hg⟩
  ·rcases h.row.2 with⟨e4,_⟩ | ⟨g',cap,cur,hv,_,hh,_⟩
   ·rw [e4]at e;cases e
   ·rw [hv]at e;simp only [Value.ownBlock,Option.some.injEq]at e;subst e;rw [hh]at hk;simp only [Option.some.injEq,Obj.cells.injEq]at hk;exact hty hk.2.1.symm
  ·have:=(Array.getElem?_eq_some_iff.1 hk).1;omega
 have ab:=jK w6 n5 1(.slice(some⟨g6,0,none⟩)(sch.length+1)c6);refine⟨⟨by simp [World.cell?,ac],by simp [World.frozen?,ac]⟩,⟨?_, ?_, ?_, ?_, ?_, ?_,h.ord⟩⟩
 ·refine(h.rd.step(aa b h.lt.1(by omega))).step(Below.heap_setCell _ _ _ _(by simp only;omega))
 ·rw [heap_setCell_same w6 n5 1 _ _ _ ac];rfl
 ·rw [Below.heap_setCell _ _ _ _(by simp only;omega),aa n2 h.lt.2.2(by omega)];exact h.res
 ·exact(ae.step ab(fun q e=>by simp only [Option.some.injEq]at e;omega)).mono ab.size
 ·have h2:=kF ad ab(fun k e e2=>by simp only [Option.some.injEq]at e;simp only [Value.ownBlock,Option.some.injEq]at e2;omega);have e1:(sch++ [t]).length=sch.length+1:=by simp
  have e2:iI(sch++ [t])=iI sch++ [.int .i64 t]:=by simp [iI]
  rw [e1,e2];exact h2
 ·exact iC ag(by omega)
end
end
section
open Go.RowKit
attribute [local go_sem] Go.World.cell?_alloc_some
def sD(e:Ending):Prop:=e= .panicked [{ v:= .iface 174(.int .i64 3),recovered:=false }]
theorem jZ(w:World):Calls Tryz.prog 141 #[.bool true]w fun e w'=>(∃ v,e= .returned v)/\w'=w:=by
 go_enter Tryz.func141,Tryz.ntmps141
 go_wp2_with fail
 go_end0
 exact⟨⟨_,rfl⟩,rfl⟩
theorem jI(w:World):Calls Tryz.prog 141 #[.bool false]w fun e w'=>sD e/\w'=w:=by
 go_enter Tryz.func141,Tryz.ntmps141
 go_wp2_with fail
 exact⟨rfl,rfl,rfl⟩
structure RdS(W:World)(w:World)(b:Nat)(s:ByteArray)(k:Nat):Prop where
 blk:w.heap[b]?=some(.cells #[.string s, .int .i64 k]176(0,0))
 base:W.grownBy w(some b)
 le:k<=s.size
theorem RdS.c0 {W w:World} {b k:Nat} {s:ByteArray}(h:RdS W w b s k):w.cell?⟨b,0,none⟩=some(.string s):=by have:=h.blk;simp [World.cell?,this]
theorem RdS.c1 {W w:World} {b k:Nat} {s:ByteArray}(h:RdS W w b s k):w.cell?⟨b,1,none⟩=some(.int .i64 k):=by have:=h.blk;simp [World.cell?,this]
theorem RdS.z1 {W w:World} {b k:Nat} {s:ByteArray}(h:RdS W w b s k):w.frozen?⟨b,1,none⟩=false:=by have:=h.blk;simp [World.frozen?,this]
theorem RdS.lt {W w:World} {b k:Nat} {s:ByteArray}(h:RdS W w b s k):b<w.heap.size:=(Array.getElem?_eq_some_iff.1 h.blk).1
theorem RdS.grown {W w w':World} {b k:Nat} {s:ByteArray}(h:RdS W w b s k)(hg:w.grownBy w' none):RdS W w' b s k:=
 ⟨by rw [hg.block b h.lt(by simp)];exact h.blk,ic h.base(lX hg),h.le⟩
theorem RdS.self {W w:World} {b k:Nat} {s:ByteArray}(h:RdS W w b s k):RdS w w b s k:=⟨h.blk,il _ _,h.le⟩
theorem RdS.trans {W w w':World} {b k k':Nat} {s:ByteArray}(h:RdS W w b s k)(h':RdS w w' b s k'):RdS W w' b s k':=⟨h'.blk,ic h.base h'.base,h'.le⟩
theorem RdS.step {W w:World} {b k:Nat} {s:ByteArray}(h:RdS W w b s k)(hk:k<s.size):RdS W(w.setCell⟨b,1,none⟩(.int .i64((k+1:Nat):Int)))b s(k+1):=
 ⟨by rw [heap_setCell_same _ b 1 _ _ _ h.blk];rfl,ic h.base iS,hk⟩
def Rd {α:Type}(W:World)(b:Nat)(s:ByteArray)(V:World->α->Value->Prop)(res:Option(α × List Nat))(e:Ending)(w':World):Prop:=
 (res=none/\sD e/\W.grownBy w'(some b))\/∃ x r v k,res=some(x,r)/\e= .returned v/\V w' x v/\RdS W w' b s k/\(byt s).drop k=r
def Ce(l:List Nat):Option(Nat × List Nat):=match l with
 | []=>none
 | x::r=>some(x,r)
theorem Ck(W w:World)(b k:Nat)(s:ByteArray)(h:RdS W w b s k)(hs:s.size<=9223372036854775806):
  Calls Tryz.prog 171 #[pt b]w(Rd W b s(fun _ x v=>v= .int .u8((x:Nat):Int))(Ce((byt s).drop k))):=by
 have c0:=h.c0;have c1:=h.c1;have z1:=h.z1;have hle:=h.le;have HH:=hZ h;clear h;unfold pt;by_cases hk:k<s.size
 ·have q1:(k:Int)<s.size:=by omega
  have q2:wrap64((k:Int)+1)=((k+1:Nat):Int):=by simp [wrap64];omega
  go_enter Tryz.func171,Tryz.ntmps171
  go_wp2_with fail
  go_still_tail 10,(by kernel_rfl)
  go_wp2_with(go_at_call 141;refine(jZ _).mono ?_;rintro e w1⟨⟨v,rfl⟩,rfl⟩)
  have S6:=HH.out.step hk;have e1:((k:Int)+1)=((k+1:Nat):Int):=by omega
  rw [e1];have aa:=hZ S6;generalize w.setCell⟨b,1,none⟩(.int .i64((k+1:Nat):Int))=w6 at aa S6 ⊢;have d0:=S6.c0;have d1:=S6.c1;clear S6 c0 c1 z1 e1 HH;have HB:=hZ(ly s k hk);go_quiet(fail)
  go_wp2_with fail
  go_ret;refine Or.inr⟨s[k].toNat,(byt s).drop(k+1),_,k+1, ?_,rfl, ?_, ?_,rfl⟩
  ·rw [HB.out];rfl
  ·rfl
  ·exact aa.out.grown(iU _(ir(il _ _)))
 ·have q1:¬(k:Int)<s.size:=by omega
  go_enter Tryz.func171,Tryz.ntmps171
  go_wp2_with fail
  go_still_tail 10,(by kernel_rfl)
  go_wp2_with(go_at_call 141;refine(jI _).mono ?_;rintro e w1⟨rfl,rfl⟩)
  refine⟨rfl,Or.inl⟨?_,rfl,ir HH.out.base⟩⟩;have e:(byt s).drop k= []:=List.drop_eq_nil_iff.2(by rw [iP];omega);rw [e];rfl
end
section
open Go.RowKit
attribute [local go_sem] Go.World.cell?_alloc_some
theorem B9(s:ByteArray) {i j:Nat}(hi:i<=s.size)(hj:j<=s.size)(h:(byt s).drop i=(byt s).drop j):i=j:=by
 have:=congrArg List.length h;simp only [List.length_drop,iP]at this;omega
theorem nF(W w:World)(b k:Nat)(s:ByteArray)(h:RdS W w b s k)(hs:s.size<=9223372036854775806)(hk:k<s.size):
  Calls Tryz.prog 171 #[pt b]w fun e w'=>e= .returned(.int .u8((s[k].toNat:Nat):Int))/\RdS W w' b s(k+1):=by
 refine(Ck W w b k s h hs).mono ?_;rintro e w'(⟨h1,_⟩ | ⟨x,r,v,k',h1,rfl,rfl,h2,h3⟩)
 ·rw [ly s k hk]at h1;cases h1
 ·rw [ly s k hk]at h1;simp only [Ce,Option.some.injEq,Prod.mk.injEq]at h1;obtain⟨rfl,rfl⟩:=h1;have:=B9 s h2.le(show k+1<=s.size from hk)h3;subst this;exact⟨rfl,h2⟩
theorem nH(W w:World)(b k:Nat)(s:ByteArray)(h:RdS W w b s k)(hs:s.size<=9223372036854775806)(hk:¬k<s.size):
  Calls Tryz.prog 171 #[pt b]w fun e w'=>sD e/\W.grownBy w'(some b):=by
 have e0:(byt s).drop k= []:=List.drop_eq_nil_iff.2(by rw [iP];omega);refine(Ck W w b k s h hs).mono ?_;rintro e w'(⟨_,h2,h3⟩ | ⟨x,r,v,k',h1,rfl,rfl,h2,h3⟩)
 ·exact⟨h2,h3⟩
 ·rw [e0]at h1;cases h1
theorem rE(x place:Nat):((x:Int) % 128*2 ^ place)=((x % 128*2 ^ place:Nat):Int):=by push_cast;rfl
theorem rJ(m:Nat):IntKind.u64.wrap(m:Int)=((m % 18446744073709551616:Nat):Int):=by
 simp only [IntKind.wrap,IntKind.signed,IntKind.bits];simp
theorem Dx(x aa:Nat)(h:x % 128*2 ^ aa<18446744073709551616):(IntKind.u64.wrap((x:Int) % 128*2 ^ aa)/ 2 ^ aa==(x:Int) % 128)=true:=by
 rw [rE,rJ,Nat.mod_eq_of_lt h];have e:((2:Int) ^ aa)=((2 ^ aa:Nat):Int):=by push_cast;rfl
 rw [e,<-Int.natCast_ediv,Nat.mul_div_cancel _(Nat.two_pow_pos aa)];simp
theorem D9(x aa:Nat)(h:¬x % 128*2 ^ aa<18446744073709551616)(_hp:aa<64):(IntKind.u64.wrap((x:Int) % 128*2 ^ aa)/ 2 ^ aa==(x:Int) % 128)=false:=by
 rw [rE,rJ];have e:((2:Int) ^ aa)=((2 ^ aa:Nat):Int):=by push_cast;rfl
 rw [e,<-Int.natCast_ediv];have h1:x % 128*2 ^ aa % 18446744073709551616 / 2 ^ aa≠x % 128:=by
  intro h2;have h3:x % 128*2 ^ aa<=x % 128*2 ^ aa % 18446744073709551616:=by
   have:=Nat.div_mul_le_self(x % 128*2 ^ aa % 18446744073709551616)(2 ^ aa);rw [h2]at this;exact this
  have:=Nat.mod_lt(x % 128*2 ^ aa)(show 0<18446744073709551616 by decide);omega
 rw [beq_eq_false_iff_ne];intro h2;apply h1;have:((x:Int) % 128)=((x % 128:Nat):Int):=by push_cast;rfl
 rw [this]at h2;exact_mod_cast h2
theorem s8(n x aa:Nat)(hn:n<2 ^ aa)(h:x % 128*2 ^ aa<18446744073709551616)(hp:aa<64):n+x % 128*2 ^ aa<18446744073709551616/\n+x % 128*2 ^ aa<2 ^ (aa+7):=by
 constructor
 ·have e:18446744073709551616=2 ^ (64 - aa)*2 ^ aa:=by rw [<-Nat.pow_add,show 64 - aa+aa=64 by omega]
  rw [e]at h ⊢;have h1:x % 128<2 ^ (64 - aa):=Nat.lt_of_mul_lt_mul_right h;have h2:(x % 128+1)*2 ^ aa<=2 ^ (64 - aa)*2 ^ aa:=Nat.mul_le_mul_right _ h1;rw [Nat.add_mul,Nat.one_mul]at h2;omega
 ·have h1:2 ^ (aa+7)=128*2 ^ aa:=by rw [Nat.pow_add,Nat.mul_comm]
  have h2:x % 128*2 ^ aa<=127*2 ^ aa:=Nat.mul_le_mul_right _(by omega);omega
theorem EH(n x aa:Nat)(hn:n<2 ^ aa)(h:x % 128*2 ^ aa<18446744073709551616)(hp:aa<64):bits .or .u64(n:Int)(IntKind.u64.wrap((x:Int) % 128*2 ^ aa))=((n+x % 128*2 ^ aa:Nat):Int):=by
 have h64:=(s8 n x aa hn h hp).1;rw [rE,rJ,Nat.mod_eq_of_lt h,u64_or_nat _ _(by omega)h,Nat.or_comm,nat_join aa _ _(Nat.mul_mod_left _ _)hn,Nat.add_comm]
theorem xB(W w:World)(b k:Nat)(s:ByteArray)(h:RdS W w b s k)(hs:s.size<=9223372036854775806):
  Calls Tryz.prog 187 #[pt b]w(Rd W b s(fun _ x v=>v= .int .u64((x:Nat):Int))(rdN 0 0((byt s).drop k))):=by
 have HH:=hZ h;have ah:pt b= .pointer(some⟨b,0,none⟩):=rfl;rw [ah];clear h ah;go_enter Tryz.func187,Tryz.ntmps187
 go_wp2_with fail
 go_loopw [3,4](fun nv pv w'=>∃ (n aa k':Nat),nv= .int .u64 n/\pv= .int .i64 aa/\aa<=70/\n<2 ^ aa/\Hid(RdS W w' b s k')/\Hid(rdN aa n((byt s).drop k')=rdN 0 0((byt s).drop k)))(fun _ pv _=>71 - (intOf pv).toNat)
 case atStart=>exact⟨0,0,k,rfl,rfl,by omega,by simp,HH,hZ rfl⟩
 case round=>
  obtain⟨n,aa,k',rfl,rfl,hpl,hn,HS,HE⟩:=hrel;obtain⟨w5,ak⟩:∃ w5,w5=wr:=⟨_,rfl⟩;subst ak;by_cases hk:k'<s.size
  ·have HB:=hZ(ly s k' hk);have hb:=s[k'].toNat_lt;have ae:=hZ(nF W w5 b k' s HS.out hs hk);generalize s[k'].toNat=x at*;have hand:bits .and .u8(x:Int)127=((x % 128:Nat):Int):=by
    have:=u8_and_nat x 127(by omega)(by decide);rw [nat_mask7]at this;exact this
   have hx8:x<256:=by omega
   by_cases af:aa<64
   ·have q1:(aa:Int)<64:=by omega
    by_cases ac:x % 128*2 ^ aa<18446744073709551616
    ·have aj:=Dx x aa ac;have hor:=EH n x aa hn ac af;have ai:=hZ(s8 n x aa hn ac af);by_cases ag:x<128
     ·have q2:(x:Int)<128:=by omega
      have HR:Hid(rdN 0 0((byt s).drop k)=if 0<x\/aa=0 then some(n+x % 128*2 ^ aa,(byt s).drop(k'+1))else none):=by
       unfold Hid;rw [<-HE.out,HB.out,rdN,if_pos⟨af,ac⟩,if_pos ag]
      clear HE;by_cases h0:0<x
      ·have q3:(0:Int)<(x:Int):=by omega
       go_wp2_with(first | (go_at_call 171;refine ae.out.mono ?_;rintro e w6⟨rfl,ab⟩;have ad:=hZ ab;clear ab) | (go_at_call 141;refine(jZ _).mono ?_;rintro e w7⟨⟨v7,rfl⟩,rfl⟩))
       go_ret;exact Or.inr⟨n+x % 128*2 ^ aa,(byt s).drop(k'+1),_,k'+1,by rw [HR.out,if_pos(Or.inl h0)],rfl,rfl,ad.out,rfl⟩
      ·have q3:¬(0:Int)<(x:Int):=by omega
       by_cases hp:aa=0
       ·have q4:((aa:Int)==0)=true:=by simp;omega
        have al:Hid(rdN 0 0((byt s).drop k)=some(n+x % 128*2 ^ aa,(byt s).drop(k'+1))):=by
         unfold Hid;rw [HR.out,if_pos(Or.inr hp)]
        clear hp;go_wp2_with(first | (go_at_call 171;refine ae.out.mono ?_;rintro e w6⟨rfl,ab⟩;have ad:=hZ ab;clear ab) | (go_at_call 141;first | (refine(jZ _).mono ?_;rintro e w7⟨⟨v7,rfl⟩,rfl⟩) | (refine(jI _).mono ?_;rintro e w7⟨rfl,rfl⟩)))
        go_ret;exact Or.inr⟨n+x % 128*2 ^ aa,(byt s).drop(k'+1),_,k'+1,al.out,rfl,rfl,ad.out,rfl⟩
       ·have q4:((aa:Int)==0)=false:=by simp;omega
        go_wp2_with(first | (go_at_call 171;refine ae.out.mono ?_;rintro e w6⟨rfl,ab⟩;have ad:=hZ ab;clear ab) | (go_at_call 141;first | (refine(jZ _).mono ?_;rintro e w7⟨⟨v7,rfl⟩,rfl⟩) | (refine(jI _).mono ?_;rintro e w7⟨rfl,rfl⟩)))
        refine⟨rfl,Or.inl⟨?_,rfl,ad.out.base⟩⟩;rw [HR.out,if_neg(fun h=>h.elim h0 hp)]
     ·have q2:¬(x:Int)<128:=by omega
      have HR:Hid(rdN(aa+7)(n+x % 128*2 ^ aa)((byt s).drop(k'+1))=rdN 0 0((byt s).drop k)):=by
       unfold Hid;rw [<-HE.out,HB.out,rdN,if_pos⟨af,ac⟩,if_neg ag]
      clear HE;go_wp2_with(first | (go_at_call 171;refine ae.out.mono ?_;rintro e w6⟨rfl,ab⟩;have ad:=hZ ab;clear ab) | (go_at_call 141;refine(jZ _).mono ?_;rintro e w7⟨⟨v7,rfl⟩,rfl⟩))
      go_roundw
      case rel=>exact⟨n+x % 128*2 ^ aa,aa+7,k'+1,rfl,by first | rfl | (congr 1),by omega,ai.out.2,ad,HR⟩
      case measure=>simp [intOf];omega
    ·have aj:=D9 x aa ac af;go_wp2_with(first | (go_at_call 171;refine ae.out.mono ?_;rintro e w6⟨rfl,ab⟩;have ad:=hZ ab;clear ab) | (go_at_call 141;refine(jI _).mono ?_;rintro e w7⟨rfl,rfl⟩))
     refine⟨rfl,Or.inl⟨?_,rfl,ad.out.base⟩⟩;rw [<-HE.out,HB.out,rdN,if_neg(fun h=>ac h.2)]
   ·have q1:¬(aa:Int)<64:=by omega
    go_wp2_with(first | (go_at_call 171;refine ae.out.mono ?_;rintro e w6⟨rfl,ab⟩;have ad:=hZ ab;clear ab) | (go_at_call 141;refine(jI _).mono ?_;rintro e w7⟨rfl,rfl⟩))
    refine⟨rfl,Or.inl⟨?_,rfl,ad.out.base⟩⟩;rw [<-HE.out,HB.out,rdN,if_neg(fun h=>af h.1)]
  ·have ae:=hZ(nH W w5 b k' s HS.out hs hk);have e0:Hid((byt s).drop k'= []):=List.drop_eq_nil_iff.2(by rw [iP];omega);go_wp2_with(go_at_call 171;refine ae.out.mono ?_;rintro e w6⟨rfl,ab⟩)
   refine⟨rfl,Or.inl⟨?_,rfl,ab⟩⟩;rw [<-HE.out,e0.out,rdN]
end
section
open Go.RowKit
attribute [local go_sem] Go.World.cell?_alloc_some
theorem Gj(l:List Nat):∀ (aa ab x:Nat)(r:List Nat),ab<2 ^ aa->rdN aa ab l=some(x,r)->x<18446744073709551616:=by
 induction l with
 | nil=>intro aa ab x r _ h;cases h
 | cons b l ih=>
  intro aa ab x r ha h;rw [rdN]at h;split at h
  ·rename_i h1
   have hf:=s8 ab b aa ha h1.2 h1.1;split at h
   ·split at h
    ·simp only [Option.some.injEq,Prod.mk.injEq]at h;rw [<-h.1];exact hf.1
    ·cases h
   ·exact ih _ _ _ _ hf.2 h
  ·cases h
theorem nG(W w:World)(b k:Nat)(s:ByteArray)(h:RdS W w b s k)(hs:s.size<=9223372036854775806):
  Calls Tryz.prog 175 #[pt b]w(Rd W b s(fun _ x v=>v= .int .i64 x)(jn((byt s).drop k))):=by
 have HN:=hZ(xB W w b k s h hs);have aa:pt b= .pointer(some⟨b,0,none⟩):=rfl;rw [aa]at*;clear h;go_enter Tryz.func175,Tryz.ntmps175
 go_wp2_with fail
 refine HN.out.mono ?_;rintro e w1(⟨hr,rfl,hg⟩ | ⟨n,r,v,k1,hr,rfl,rfl,hS,hd⟩)
 ·have HR:Hid(jn((byt s).drop k)=none):=by unfold Hid jn;rw [hr]
  clear hr;go_wp2_with fail
  exact⟨rfl,Or.inl⟨HR.out,rfl,hg⟩⟩
 ·have HS:=hZ hS;have HD:=hZ hd;by_cases hm:n<=9223372036854775807
  ·have HR:Hid(jn((byt s).drop k)=some((n:Int),r)):=by unfold Hid jn;rw [hr];simp only;rw [if_pos hm]
   have q1:(n:Int)<=9223372036854775807:=by omega
   clear hr hS hd;go_wp2_with(go_at_call 141;refine(jZ _).mono ?_;rintro e w7⟨⟨v7,rfl⟩,rfl⟩)
   go_ret;exact Or.inr⟨(n:Int),r,_,k1,HR.out,rfl,rfl,HS.out,HD.out⟩
  ·have HR:Hid(jn((byt s).drop k)=none):=by unfold Hid jn;rw [hr];simp only;rw [if_neg hm]
   have qd:decide((n:Int)<=9223372036854775807)=false:=by simp;omega
   clear hr hS hd;go_wp2_with(go_at_call 141;refine(jI _).mono ?_;rintro e w7⟨rfl,rfl⟩)
   exact⟨rfl,Or.inl⟨HR.out,rfl,HS.out.base⟩⟩
theorem Eh(n:Nat)(hn:n<18446744073709551616)(h:n % 2=1):wrap64(bits .xor .u64 IntKind.u64.max((n:Int)/ 2))=zag n:=by
 have hm:IntKind.u64.max=((18446744073709551615:Nat):Int):=rfl;have e:((n:Int)/ 2)=((n / 2:Nat):Int):=by omega
 rw [e,hm,u64_xor_nat _ _(by decide)(by omega)];have:=x9 64(n / 2)(by omega);have e3:(2:Nat) ^ 64 - 1=18446744073709551615:=by decide
 rw [e3]at this;rw [this];unfold zag;rw [if_pos h];simp only [wrap64];omega
theorem CL(W w:World)(b k:Nat)(s:ByteArray)(h:RdS W w b s k)(hs:s.size<=9223372036854775806):
  Calls Tryz.prog 193 #[pt b]w(Rd W b s(fun _ x v=>v= .int .i64 x)(kX((byt s).drop k))):=by
 have HN:=hZ(xB W w b k s h hs);have ab:pt b= .pointer(some⟨b,0,none⟩):=rfl;rw [ab]at*;clear h;go_enter Tryz.func193,Tryz.ntmps193
 go_wp2_with fail
 refine HN.out.mono ?_;rintro e w1(⟨hr,rfl,hg⟩ | ⟨n,r,v,k1,hr,rfl,rfl,hS,hd⟩)
 ·have HR:Hid(kX((byt s).drop k)=none):=by unfold Hid kX;rw [hr]
  clear hr;go_wp2_with fail
  exact⟨rfl,Or.inl⟨HR.out,rfl,hg⟩⟩
 ·have HS:=hZ hS;have HD:=hZ hd;have hn:=Gj _ 0 0 n r(by simp)hr;have HR:Hid(kX((byt s).drop k)=some(zag n,r)):=by unfold Hid kX;rw [hr]
  clear hr hS hd;have aa:bits .and .u64(n:Int)1=((n % 2:Nat):Int):=by
   have:=u64_and_nat n 1 hn(by decide);rw [nat_mask1]at this;exact this
  by_cases h2:n % 2=1
  ·rw [h2]at aa;have hz:=Eh n hn h2;go_wp2_with fail
   go_ret;exact Or.inr⟨zag n,r,_,k1,HR.out,rfl,by first | rfl | (rw [<-hz];rfl),HS.out,HD.out⟩
  ·have h0:n % 2=0:=by omega
   rw [h0]at aa;have HZ:Hid(zag n=((n / 2:Nat):Int)):=by unfold Hid zag;rw [if_neg h2]
   go_wp2_with fail
   go_ret;exact Or.inr⟨zag n,r,_,k1,HR.out,rfl,by rw [HZ.out];rfl,HS.out,HD.out⟩
theorem vU(W w:World)(b k:Nat)(s:ByteArray)(h:RdS W w b s k)(hs:s.size<=9223372036854775806)(m:Int):
  Calls Tryz.prog 172 #[pt b, .int .i64 m]w(Rd W b s(fun _ x v=>v= .int .i64 x)(kO m((byt s).drop k))):=by
 have HN:=hZ(nG W w b k s h hs);have aa:pt b= .pointer(some⟨b,0,none⟩):=rfl;rw [aa]at*;clear h;go_enter Tryz.func172,Tryz.ntmps172
 go_wp2_with fail
 refine HN.out.mono ?_;rintro e w1(⟨hr,rfl,hg⟩ | ⟨n,r,v,k1,hr,rfl,rfl,hS,hd⟩)
 ·have HR:Hid(kO m((byt s).drop k)=none):=by unfold Hid kO;rw [hr]
  clear hr;go_wp2_with fail
  exact⟨rfl,Or.inl⟨HR.out,rfl,hg⟩⟩
 ·have HS:=hZ hS;have HD:=hZ hd;by_cases hm:n<=m
  ·have HR:Hid(kO m((byt s).drop k)=some(n,r)):=by unfold Hid kO;rw [hr];simp only;rw [if_pos hm]
   clear hr hS hd;go_wp2_with(go_at_call 141;refine(jZ _).mono ?_;rintro e w7⟨⟨v7,rfl⟩,rfl⟩)
   go_ret;exact Or.inr⟨n,r,_,k1,HR.out,rfl,rfl,HS.out,HD.out⟩
  ·have HR:Hid(kO m((byt s).drop k)=none):=by unfold Hid kO;rw [hr];simp only;rw [if_neg hm]
   have qd:decide(n<=m)=false:=by simp;omega
   clear hr hS hd;go_wp2_with(go_at_call 141;refine(jI _).mono ?_;rintro e w7⟨rfl,rfl⟩)
   exact⟨rfl,Or.inl⟨HR.out,rfl,HS.out.base⟩⟩
structure InS(W w:World)(b:Nat)(s:ByteArray)(k T c d:Nat)(vs us:Array Value):Prop where
 rd:RdS W w b s k
 var:w.heap[c]?=some(.cells vs T(0,0))
 res:w.heap[d]?=some(.cells us T(0,0))
 cb:c≠b
 db:d≠b
 cd:c≠d
 lc:W.heap.size<=c
 ld:W.heap.size<=d
theorem InS.call {W w w':World} {b k k' T c d:Nat} {s:ByteArray} {vs us:Array Value}(h:InS W w b s k T c d vs us)(h':RdS w w' b s k'):InS W w' b s k' T c d vs us:=
 ⟨h.rd.trans h',by rw [h'.base.block c(Array.getElem?_eq_some_iff.1 h.var).1(by simpa using h.cb)];exact h.var,
  by rw [h'.base.block d(Array.getElem?_eq_some_iff.1 h.res).1(by simpa using h.db)];exact h.res,h.cb,h.db,h.cd,h.lc,h.ld⟩
theorem InS.cell {W w:World} {b k T c d:Nat} {s:ByteArray} {vs us:Array Value}(h:InS W w b s k T c d vs us)(o:Nat):w.cell?⟨c,o,none⟩=vs[o]?:=by
 have:=h.var;simp [World.cell?,this]
theorem InS.free {W w:World} {b k T c d:Nat} {s:ByteArray} {vs us:Array Value}(h:InS W w b s k T c d vs us)(o:Nat):w.frozen?⟨c,o,none⟩=false:=by
 have:=h.var;simp [World.frozen?,this]
theorem InS.rcell {W w:World} {b k T c d:Nat} {s:ByteArray} {vs us:Array Value}(h:InS W w b s k T c d vs us)(o:Nat):w.cell?⟨d,o,none⟩=us[o]?:=by
 have:=h.res;simp [World.cell?,this]
theorem InS.rfree {W w:World} {b k T c d:Nat} {s:ByteArray} {vs us:Array Value}(h:InS W w b s k T c d vs us)(o:Nat):w.frozen?⟨d,o,none⟩=false:=by
 have:=h.res;simp [World.frozen?,this]
theorem InS.set {W w:World} {b k T c d:Nat} {s:ByteArray} {vs us:Array Value}(h:InS W w b s k T c d vs us)(o:Nat)(v:Value):InS W(w.setCell⟨c,o,none⟩v)b s k T c d(vs.setIfInBounds o v)us:=by
 refine⟨⟨?_,iC h.rd.base h.lc,h.rd.le⟩, ?_, ?_,h.cb,h.db,h.cd,h.lc,h.ld⟩
 ·rw [heap_setCell_other _ _ _ _(Ne.symm h.cb)];exact h.rd.blk
 ·rw [heap_setCell_same _ c o _ _ _ h.var]
 ·rw [heap_setCell_other _ _ _ _(Ne.symm h.cd)];exact h.res
theorem InS.rset {W w:World} {b k T c d:Nat} {s:ByteArray} {vs us:Array Value}(h:InS W w b s k T c d vs us)(o:Nat)(v:Value):InS W(w.setCell⟨d,o,none⟩v)b s k T c d vs(us.setIfInBounds o v):=by
 refine⟨⟨?_,iC h.rd.base h.ld,h.rd.le⟩, ?_, ?_,h.cb,h.db,h.cd,h.lc,h.ld⟩
 ·rw [heap_setCell_other _ _ _ _(Ne.symm h.db)];exact h.rd.blk
 ·rw [heap_setCell_other _ _ _ _ h.cd];exact h.var
 ·rw [heap_setCell_same _ d o _ _ _ h.res]
theorem InS.start {W w:World} {b k T:Nat} {s:ByteArray}(h:RdS W w b s k)(us vs:Array Value):InS W((w.alloc(.cells us T)).alloc(.cells vs T))b s k T(w.heap.size+1)w.heap.size vs us:=by
 have hb:=h.lt;have hW:=h.base.size;refine⟨h.grown(ij(ij(il _ _))), ?_, ?_,by omega,by omega,by omega,by omega,hW⟩
 ·have:=heap_alloc_new(w.alloc(.cells us T))(.cells vs T);simpa using this
 ·rw [Below.heap_alloc _ _ _(by simp)];exact heap_alloc_new _ _
def GI(i:Ins):Value:= .agg #[.int .i64 i.op, .int .i64 i.a, .int .i64 i.b, .int .i64 i.n]
theorem Gv(W w:World)(b k:Nat)(s:ByteArray)(h:RdS W w b s k)(hs:s.size<=9223372036854775806):
  Calls Tryz.prog 186 #[pt b]w(Rd W b s(fun _ x v=>v=GI x)(mm((byt s).drop k))):=by
 have HH:=hZ h;have af:pt b= .pointer(some⟨b,0,none⟩):=rfl;rw [af]at*;clear h;go_enter Tryz.func186,Tryz.ntmps186
 go_wp2_with fail
 have I0:=InS.start(T:=65)HH.out #[.int .i64 0, .int .i64 0, .int .i64 0, .int .i64 0] #[.int .i64 0, .int .i64 0, .int .i64 0, .int .i64 0];generalize(w.alloc(.cells #[.int .i64 0, .int .i64 0, .int .i64 0, .int .i64 0]65)).alloc(.cells #[.int .i64 0, .int .i64 0, .int .i64 0, .int .i64 0]65)=w1 at I0 ⊢;refine(nG w1 w1 b k s I0.rd.self hs).mono ?_;rintro e x1(⟨hr,rfl,hg⟩ | ⟨o,r1,v,k1,hr,rfl,rfl,hS,rfl⟩)
 ·have HR:Hid(mm((byt s).drop k)=none):=by unfold Hid mm;rw [hr]
  have HG:=hZ(ic I0.rd.base hg);clear hr hg I0;go_wp2_with fail
  exact⟨rfl,Or.inl⟨HR.out,rfl,HG.out⟩⟩
 have aa:=hZ hr;have I:=I0.call hS;have HI:=hZ I;have c1:x1.cell?⟨w.heap.size+1,0,none⟩=some(.int .i64 0):=by simpa using I.cell 0
 have f1:=I.free 0;clear I0 I hS hr;go_wp2_with fail
 have I1:=HI.out.set 0(.int .i64 o);generalize x1.setCell⟨w.heap.size+1,0,none⟩(.int .i64 o)=y1 at I1 ⊢;clear HI c1 f1;refine(nG y1 y1 b k1 s I1.rd.self hs).mono ?_;rintro e x2(⟨hr,rfl,hg⟩ | ⟨a,r1,v,k2,hr,rfl,rfl,hS,rfl⟩)
 ·have HR:Hid(mm((byt s).drop k)=none):=by unfold Hid mm;rw [aa.out];simp only;rw [hr]
  have HG:=hZ(ic I1.rd.base hg);clear hr hg I1;go_wp2_with fail
  exact⟨rfl,Or.inl⟨HR.out,rfl,HG.out⟩⟩
 have ab:=hZ hr;have I:=I1.call hS;have HI:=hZ I;have c1:x2.cell?⟨w.heap.size+1,1,none⟩=some(.int .i64 0):=by simpa using I.cell 1
 have f1:=I.free 1;clear I1 I hS hr;go_wp2_with fail
 have I2:=HI.out.set 1(.int .i64 a);generalize x2.setCell⟨w.heap.size+1,1,none⟩(.int .i64 a)=y2 at I2 ⊢;clear HI c1 f1;refine(nG y2 y2 b k2 s I2.rd.self hs).mono ?_;rintro e x3(⟨hr,rfl,hg⟩ | ⟨c,r1,v,k3,hr,rfl,rfl,hS,rfl⟩)
 ·have HR:Hid(mm((byt s).drop k)=none):=by unfold Hid mm;rw [aa.out];simp only;rw [ab.out];simp only;rw [hr]
  have HG:=hZ(ic I2.rd.base hg);clear hr hg I2;go_wp2_with fail
  exact⟨rfl,Or.inl⟨HR.out,rfl,HG.out⟩⟩
 have ac:=hZ hr;have I:=I2.call hS;have HI:=hZ I;have c1:x3.cell?⟨w.heap.size+1,2,none⟩=some(.int .i64 0):=by simpa using I.cell 2
 have f1:=I.free 2;clear I2 I hS hr;go_wp2_with fail
 have I3:=HI.out.set 2(.int .i64 c);generalize x3.setCell⟨w.heap.size+1,2,none⟩(.int .i64 c)=y3 at I3 ⊢;clear HI c1 f1;refine(CL y3 y3 b k3 s I3.rd.self hs).mono ?_;rintro e x4(⟨hr,rfl,hg⟩ | ⟨n,r1,v,k4,hr,rfl,rfl,hS,rfl⟩)
 ·have HR:Hid(mm((byt s).drop k)=none):=by unfold Hid mm;rw [aa.out];simp only;rw [ab.out];simp only;rw [ac.out];simp only;rw [hr]
  have HG:=hZ(ic I3.rd.base hg);clear hr hg I3;go_wp2_with fail
  exact⟨rfl,Or.inl⟨HR.out,rfl,HG.out⟩⟩
 have ae:=hZ hr;have I:=I3.call hS;have HI:=hZ I;have c1:x4.cell?⟨w.heap.size+1,3,none⟩=some(.int .i64 0):=by simpa using I.cell 3
 have f1:=I.free 3;clear I3 I hS hr;have I:=HI.out.set 3(.int .i64 n);have d0:(x4.setCell⟨w.heap.size+1,3,none⟩(.int .i64 n)).cell?⟨w.heap.size+1,0,none⟩=some(.int .i64 o):=by simpa using I.cell 0
 have g0:x4.frozen?⟨w.heap.size,0,none⟩=false:=HI.out.rfree 0;have r0:(x4.setCell⟨w.heap.size+1,3,none⟩(.int .i64 n)).cell?⟨w.heap.size,0,none⟩=some(.int .i64 0):=by simpa using I.rcell 0
 have d1:(x4.setCell⟨w.heap.size+1,3,none⟩(.int .i64 n)).cell?⟨w.heap.size+1,1,none⟩=some(.int .i64 a):=by simpa using I.cell 1
 have g1:x4.frozen?⟨w.heap.size,1,none⟩=false:=HI.out.rfree 1;have r1:(x4.setCell⟨w.heap.size+1,3,none⟩(.int .i64 n)).cell?⟨w.heap.size,1,none⟩=some(.int .i64 0):=by simpa using I.rcell 1
 have d2:(x4.setCell⟨w.heap.size+1,3,none⟩(.int .i64 n)).cell?⟨w.heap.size+1,2,none⟩=some(.int .i64 c):=by simpa using I.cell 2
 have g2:x4.frozen?⟨w.heap.size,2,none⟩=false:=HI.out.rfree 2;have r2:(x4.setCell⟨w.heap.size+1,3,none⟩(.int .i64 n)).cell?⟨w.heap.size,2,none⟩=some(.int .i64 0):=by simpa using I.rcell 2
 have d3:(x4.setCell⟨w.heap.size+1,3,none⟩(.int .i64 n)).cell?⟨w.heap.size+1,3,none⟩=some(.int .i64 n):=by simpa using I.cell 3
 have g3:x4.frozen?⟨w.heap.size,3,none⟩=false:=HI.out.rfree 3;have r3:(x4.setCell⟨w.heap.size+1,3,none⟩(.int .i64 n)).cell?⟨w.heap.size,3,none⟩=some(.int .i64 0):=by simpa using I.rcell 3
 have ad:=hZ I;clear I;go_wp2_with fail
 have J:=((((ad.out.rset 0(.int .i64 o)).rset 1(.int .i64 a)).rset 2(.int .i64 c)).rset 3(.int .i64 n));clear c1 f1 HI ad d0 g0 r0 d1 g1 r1 d2 g2 r2 d3 g3 r3;generalize(((((x4.setCell⟨w.heap.size+1,3,none⟩(.int .i64 n)).setCell⟨w.heap.size,0,none⟩(.int .i64 o)).setCell⟨w.heap.size,1,none⟩(.int .i64 a)).setCell⟨w.heap.size,2,none⟩(.int .i64 c)).setCell⟨w.heap.size,3,none⟩(.int .i64 n))=wz at J ⊢;have e0:wz.cell?⟨w.heap.size,0,none⟩=some(.int .i64 o):=by simpa using J.rcell 0
 have e1:wz.cell?⟨w.heap.size,1,none⟩=some(.int .i64 a):=by simpa using J.rcell 1
 have e2:wz.cell?⟨w.heap.size,2,none⟩=some(.int .i64 c):=by simpa using J.rcell 2
 have e3:wz.cell?⟨w.heap.size,3,none⟩=some(.int .i64 n):=by simpa using J.rcell 3
 refine bodyPost_ret(v:= .agg #[.int .i64 o, .int .i64 a, .int .i64 c, .int .i64 n]) ?_ rfl ?_
 ·simp [results,Tryz.results186,go_sem,e0,e1,e2,e3]
 ·refine Or.inr⟨⟨o,a,c,n⟩,_,_,k4, ?_,rfl,rfl,J.rd,rfl⟩;unfold mm;rw [aa.out];simp only;rw [ab.out];simp only;rw [ac.out];simp only;rw [ae.out]
def D6(v:Int × Int × Int):Value:= .agg #[.int .i64 v.1, .int .i64 v.2.1, .int .i64 v.2.2]
theorem Gw(W w:World)(b k:Nat)(s:ByteArray)(h:RdS W w b s k)(hs:s.size<=9223372036854775806):
  Calls Tryz.prog 139 #[pt b]w(Rd W b s(fun _ x v=>v=D6 x)(m8((byt s).drop k))):=by
 have HH:=hZ h;have ae:pt b= .pointer(some⟨b,0,none⟩):=rfl;rw [ae]at*;clear h;go_enter Tryz.func139,Tryz.ntmps139
 go_wp2_with fail
 have I0:=InS.start(T:=26)HH.out #[.int .i64 0, .int .i64 0, .int .i64 0] #[.int .i64 0, .int .i64 0, .int .i64 0];generalize(w.alloc(.cells #[.int .i64 0, .int .i64 0, .int .i64 0]26)).alloc(.cells #[.int .i64 0, .int .i64 0, .int .i64 0]26)=w1 at I0 ⊢;refine(nG w1 w1 b k s I0.rd.self hs).mono ?_;rintro e x1(⟨hr,rfl,hg⟩ | ⟨o,r1,v,k1,hr,rfl,rfl,hS,rfl⟩)
 ·have HR:Hid(m8((byt s).drop k)=none):=by unfold Hid m8;rw [hr]
  have HG:=hZ(ic I0.rd.base hg);clear hr hg I0;go_wp2_with fail
  exact⟨rfl,Or.inl⟨HR.out,rfl,HG.out⟩⟩
 have aa:=hZ hr;have I:=I0.call hS;have HI:=hZ I;have c1:x1.cell?⟨w.heap.size+1,0,none⟩=some(.int .i64 0):=by simpa using I.cell 0
 have f1:=I.free 0;clear I0 I hS hr;go_wp2_with fail
 have I1:=HI.out.set 0(.int .i64 o);generalize x1.setCell⟨w.heap.size+1,0,none⟩(.int .i64 o)=y1 at I1 ⊢;clear HI c1 f1;refine(nG y1 y1 b k1 s I1.rd.self hs).mono ?_;rintro e x2(⟨hr,rfl,hg⟩ | ⟨a,r1,v,k2,hr,rfl,rfl,hS,rfl⟩)
 ·have HR:Hid(m8((byt s).drop k)=none):=by unfold Hid m8;rw [aa.out];simp only;rw [hr]
  have HG:=hZ(ic I1.rd.base hg);clear hr hg I1;go_wp2_with fail
  exact⟨rfl,Or.inl⟨HR.out,rfl,HG.out⟩⟩
 have ac:=hZ hr;have I:=I1.call hS;have HI:=hZ I;have c1:x2.cell?⟨w.heap.size+1,1,none⟩=some(.int .i64 0):=by simpa using I.cell 1
 have f1:=I.free 1;clear I1 I hS hr;go_wp2_with fail
 have I2:=HI.out.set 1(.int .i64 a);generalize x2.setCell⟨w.heap.size+1,1,none⟩(.int .i64 a)=y2 at I2 ⊢;clear HI c1 f1;refine(nG y2 y2 b k2 s I2.rd.self hs).mono ?_;rintro e x3(⟨hr,rfl,hg⟩ | ⟨c,r1,v,k3,hr,rfl,rfl,hS,rfl⟩)
 ·have HR:Hid(m8((byt s).drop k)=none):=by unfold Hid m8;rw [aa.out];simp only;rw [ac.out];simp only;rw [hr]
  have HG:=hZ(ic I2.rd.base hg);clear hr hg I2;go_wp2_with fail
  exact⟨rfl,Or.inl⟨HR.out,rfl,HG.out⟩⟩
 have ad:=hZ hr;have I:=I2.call hS;have HI:=hZ I;have c1:x3.cell?⟨w.heap.size+1,2,none⟩=some(.int .i64 0):=by simpa using I.cell 2
 have f1:=I.free 2;clear I2 I hS hr;have I:=HI.out.set 2(.int .i64 c);have d0:(x3.setCell⟨w.heap.size+1,2,none⟩(.int .i64 c)).cell?⟨w.heap.size+1,0,none⟩=some(.int .i64 o):=by simpa using I.cell 0
 have g0:x3.frozen?⟨w.heap.size,0,none⟩=false:=HI.out.rfree 0;have r0:(x3.setCell⟨w.heap.size+1,2,none⟩(.int .i64 c)).cell?⟨w.heap.size,0,none⟩=some(.int .i64 0):=by simpa using I.rcell 0
 have d1:(x3.setCell⟨w.heap.size+1,2,none⟩(.int .i64 c)).cell?⟨w.heap.size+1,1,none⟩=some(.int .i64 a):=by simpa using I.cell 1
 have g1:x3.frozen?⟨w.heap.size,1,none⟩=false:=HI.out.rfree 1;have r1:(x3.setCell⟨w.heap.size+1,2,none⟩(.int .i64 c)).cell?⟨w.heap.size,1,none⟩=some(.int .i64 0):=by simpa using I.rcell 1
 have d2:(x3.setCell⟨w.heap.size+1,2,none⟩(.int .i64 c)).cell?⟨w.heap.size+1,2,none⟩=some(.int .i64 c):=by simpa using I.cell 2
 have g2:x3.frozen?⟨w.heap.size,2,none⟩=false:=HI.out.rfree 2;have r2:(x3.setCell⟨w.heap.size+1,2,none⟩(.int .i64 c)).cell?⟨w.heap.size,2,none⟩=some(.int .i64 0):=by simpa using I.rcell 2
 have ab:=hZ I;clear I;go_wp2_with fail
 have J:=(((ab.out.rset 0(.int .i64 o)).rset 1(.int .i64 a)).rset 2(.int .i64 c));clear c1 f1 HI ab d0 g0 r0 d1 g1 r1 d2 g2 r2;generalize((((x3.setCell⟨w.heap.size+1,2,none⟩(.int .i64 c)).setCell⟨w.heap.size,0,none⟩(.int .i64 o)).setCell⟨w.heap.size,1,none⟩(.int .i64 a)).setCell⟨w.heap.size,2,none⟩(.int .i64 c))=wz at J ⊢;have e0:wz.cell?⟨w.heap.size,0,none⟩=some(.int .i64 o):=by simpa using J.rcell 0
 have e1:wz.cell?⟨w.heap.size,1,none⟩=some(.int .i64 a):=by simpa using J.rcell 1
 have e2:wz.cell?⟨w.heap.size,2,none⟩=some(.int .i64 c):=by simpa using J.rcell 2
 refine bodyPost_ret(v:= .agg #[.int .i64 o, .int .i64 a, .int .i64 c]) ?_ rfl ?_
 ·simp [results,Tryz.results139,go_sem,e0,e1,e2]
 ·refine Or.inr⟨(o,a,c),_,_,k3, ?_,rfl,rfl,J.rd,rfl⟩;unfold m8;rw [aa.out];simp only;rw [ac.out];simp only;rw [ad.out]
end
section
open Go.RowKit
attribute [local go_sem] Go.World.cell?_alloc_some
def oO(room:Int)(l:List Nat):Option((Int × Int)× List Nat):=match jn l with
 | none=>none
 | some(t,r)=>match kO room r with
  | none=>none
  | some(c,r')=>if 0<c then some((t,c),r')else none
def GH(x:Int × Int):Value:= .agg #[.int .i64 x.1, .int .i64 x.2]
theorem GK(W w:World)(b k:Nat)(s:ByteArray)(aa:Int)(h:RdS W w b s k)(hs:s.size<=9223372036854775806):
  Calls Tryz.prog 174 #[pt b, .int .i64 aa]w(Rd W b s(fun _ x v=>v=GH x)(oO aa((byt s).drop k))):=by
 have HH:=hZ h;have ae:pt b= .pointer(some⟨b,0,none⟩):=rfl;rw [ae]at*;clear h;go_enter Tryz.func174,Tryz.ntmps174
 go_wp2_with fail
 have I0:=InS.start(T:=187)HH.out #[.int .i64 0, .int .i64 0] #[.int .i64 0, .int .i64 0];generalize(w.alloc(.cells #[.int .i64 0, .int .i64 0]187)).alloc(.cells #[.int .i64 0, .int .i64 0]187)=w1 at I0 ⊢;refine(nG w1 w1 b k s I0.rd.self hs).mono ?_;rintro e x1(⟨hr,rfl,hg⟩ | ⟨t,r1,v,k1,hr,rfl,rfl,hS,rfl⟩)
 ·have HR:Hid(oO aa((byt s).drop k)=none):=by unfold Hid oO;rw [hr]
  have HG:=hZ(ic I0.rd.base hg);clear hr hg I0;go_wp2_with fail
  exact⟨rfl,Or.inl⟨HR.out,rfl,HG.out⟩⟩
 have ac:=hZ hr;have I:=I0.call hS;have HI:=hZ I;have c1:x1.cell?⟨w.heap.size+1,0,none⟩=some(.int .i64 0):=by simpa using I.cell 0
 have f1:=I.free 0;clear I0 I hS hr;go_wp2_with fail
 have I1:=HI.out.set 0(.int .i64 t);generalize x1.setCell⟨w.heap.size+1,0,none⟩(.int .i64 t)=y1 at I1 ⊢;clear HI c1 f1;refine(vU y1 y1 b k1 s I1.rd.self hs aa).mono ?_;rintro e x2(⟨hr,rfl,hg⟩ | ⟨c,r1,v,k2,hr,rfl,rfl,hS,rfl⟩)
 ·have HR:Hid(oO aa((byt s).drop k)=none):=by unfold Hid oO;rw [ac.out];simp only;rw [hr]
  have HG:=hZ(ic I1.rd.base hg);clear hr hg I1;go_wp2_with fail
  exact⟨rfl,Or.inl⟨HR.out,rfl,HG.out⟩⟩
 have ad:=hZ hr;have I:=I1.call hS;have HI:=hZ I;have c1:x2.cell?⟨w.heap.size+1,1,none⟩=some(.int .i64 0):=by simpa using I.cell 1
 have f1:=I.free 1;clear I1 I hS hr;have I:=HI.out.set 1(.int .i64 c);have d0:(x2.setCell⟨w.heap.size+1,1,none⟩(.int .i64 c)).cell?⟨w.heap.size+1,0,none⟩=some(.int .i64 t):=by simpa using I.cell 0
 have d1:(x2.setCell⟨w.heap.size+1,1,none⟩(.int .i64 c)).cell?⟨w.heap.size+1,1,none⟩=some(.int .i64 c):=by simpa using I.cell 1
 have g0:x2.frozen?⟨w.heap.size,0,none⟩=false:=HI.out.rfree 0;have g1:x2.frozen?⟨w.heap.size,1,none⟩=false:=HI.out.rfree 1;have r0:(x2.setCell⟨w.heap.size+1,1,none⟩(.int .i64 c)).cell?⟨w.heap.size,0,none⟩=some(.int .i64 0):=by simpa using I.rcell 0
 have r1:(x2.setCell⟨w.heap.size+1,1,none⟩(.int .i64 c)).cell?⟨w.heap.size,1,none⟩=some(.int .i64 0):=by simpa using I.rcell 1
 have ab:=hZ I;clear I;by_cases hc:0<c
 ·go_wp2_with(go_at_call 141;refine(jZ _).mono ?_;rintro e w7⟨⟨v7,rfl⟩,rfl⟩)
  have J:=(ab.out.rset 0(.int .i64 t)).rset 1(.int .i64 c);clear c1 f1 HI ab d0 d1 g0 g1 r0 r1;generalize(((x2.setCell⟨w.heap.size+1,1,none⟩(.int .i64 c)).setCell⟨w.heap.size,0,none⟩(.int .i64 t)).setCell⟨w.heap.size,1,none⟩(.int .i64 c))=wz at J ⊢;have e0:wz.cell?⟨w.heap.size,0,none⟩=some(.int .i64 t):=by simpa using J.rcell 0
  have e1:wz.cell?⟨w.heap.size,1,none⟩=some(.int .i64 c):=by simpa using J.rcell 1
  refine bodyPost_ret(v:= .agg #[.int .i64 t, .int .i64 c]) ?_ rfl ?_
  ·simp [results,Tryz.results174,go_sem,e0,e1]
  ·refine Or.inr⟨(t,c),_,_,k2, ?_,rfl,rfl,J.rd,rfl⟩;unfold oO;rw [ac.out];simp only;rw [ad.out];simp only;rw [if_pos hc]
 ·have qd:decide(0<c)=false:=by simp;omega
  go_wp2_with(go_at_call 141;refine(jI _).mono ?_;rintro e w7⟨rfl,rfl⟩)
  refine⟨rfl,Or.inl⟨?_,rfl,ab.out.rd.base⟩⟩;unfold oO;rw [ac.out];simp only;rw [ad.out];simp only;rw [if_neg(by omega)]
end
end Go.Proofs.YtklenjmfalljgabGreatDoor
