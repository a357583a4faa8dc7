/- The texts Rde Rdf Rdg Wrt2 Rdh Rdi Rdj Rdk Rdl Rdm Rdn. -/
import Derived.Test.YtklenjmfalljgabGreatDoorMJ
import Derived.Deep.DeepMust
import Derived.Deep.RegionHeld3
namespace Go.Proofs.YtklenjmfalljgabGreatDoor
set_option maxRecDepth 100000
set_option maxHeartbeats 8000000
section
open Go.RowKit
attribute [local go_sem] Go.World.cell?_alloc_some
def oJ {α:Type}(c:List α)(res:Option(List α × List Nat)):Option(List α × List Nat):=match res with
 | some(xs,r)=>some(c++xs,r)
 | none=>none
theorem ux {α:Type}(aa:Option(List α × List Nat)):oJ []aa=aa:=by
 unfold oJ;cases aa with
 | none=>rfl
 | some x=>rfl
theorem sS {α:Type}(P:List Nat->Option(α × List Nat))(c:List α)(l:List Nat):oJ c(jV P 0 l)=some(c,l):=by simp [oJ,jV]
theorem tX {α:Type} {P:List Nat->Option(α × List Nat)} {l r:List Nat} {x:α}(h:P l=some(x,r))(c:List α)(m:Nat):oJ c(jV P(m+1)l)=oJ(c++ [x])(jV P m r):=by
 rw [jV,h];simp only;cases jV P m r with
 | none=>rfl
 | some y=>simp [oJ]
theorem sL {α:Type} {P:List Nat->Option(α × List Nat)} {l:List Nat}(h:P l=none)(c:List α)(m:Nat):oJ c(jV P(m+1)l)=none:=by rw [jV,h];rfl
theorem vw {w w':World} {base:Nat} {e:TypeId} {size:Nat} {v:Value} {n b:Nat} {xs:List Value}(h:w.ownsRow base e size v n xs)(hg:w.grownBy w'(some b))(hb:b<base):w'.ownsRow base e size v n xs:=
 iA h hg(fun k e=>by simp only [Option.some.injEq]at e;omega)
theorem pd {l r:List Nat} {x:Int}(h:jn l=some(x,r)):0<=x:=by
 unfold jn at h;split at h
 ·split at h
  ·simp only [Option.some.injEq,Prod.mk.injEq]at h;omega
  ·cases h
 ·cases h
theorem ni {b x:Int} {l r:List Nat}(h:kO b l=some(x,r)):0<=x/\x<=b:=by
 unfold kO at h;split at h
 ·rename_i hw
  split at h
  ·simp only [Option.some.injEq,Prod.mk.injEq]at h;have:=pd hw;omega
  ·cases h
 ·cases h
theorem Ci(W w:World)(b k:Nat)(s:ByteArray)(h:RdS W w b s k)(hs:s.size<=9223372036854775806):
  Calls Tryz.prog 173 #[pt b]w(Rd W b s(fun w' c v=>c.length<=16/\CodeRow w.heap.size w'.heap.size w' v c)(jC((byt s).drop k))):=by
 obtain⟨i0,am,ao,ar,au⟩:=info_parts xy;have HM:=hZ(vU w w b k s h.self hs 16);have HH:=hZ h;have aq:=h.lt;have av:pt b= .pointer(some⟨b,0,none⟩):=rfl;rw [av]at*;clear h;go_enter Tryz.func173,Tryz.ntmps173
 go_wp2_with fail
 refine HM.out.mono ?_;rintro e w1(⟨hr,rfl,hg⟩ | ⟨n,r1,v,k1,hr,rfl,rfl,hS,rfl⟩)
 ·have HR:Hid(jC((byt s).drop k)=none):=by unfold Hid jC;rw [hr]
  have HG:=hZ(ic HH.out.base hg);clear hr hg;go_wp2_with fail
  exact⟨rfl,Or.inl⟨HR.out,rfl,HG.out⟩⟩
 obtain⟨h0,h16⟩:=ni hr;obtain⟨m,rfl⟩:=Int.eq_ofNat_of_zero_le h0;have HR:Hid(jC((byt s).drop k)=jV mm m((byt s).drop k1)):=by unfold Hid jC;rw [hr];rfl
 have HS:=hZ hS;clear hr hS h0 HM;go_wp2_with fail
 go_loopw [3,6](fun lv i w'=>∃ (j:Nat)(c:List Ins)(k':Nat),j<=m/\i= .int .i64 j/\Hid(c.length=j)/\Hid(RdS w w' b s k')/\Hid(w'.ownsRow w.heap.size 65 4 lv c.length(jh c))/\Hid(oJ c(jV mm(m - j)((byt s).drop k'))=jC((byt s).drop k)))(fun _ i _=>m - (intOf i).toNat)
 case atStart=>exact⟨0, [],k1,Nat.zero_le _,rfl,hZ rfl,HS,hZ⟨rfl,Or.inl⟨rfl,rfl⟩⟩,hZ(by rw [HR.out,ux];rfl)⟩
 case round=>
  obtain⟨j,c,k',hj,rfl,HC,HJ,HO,HE⟩:=hrel;obtain⟨w5,ag⟩:∃ w5,w5=wr:=⟨_,rfl⟩;subst ag;have ag:w.heap.size<=w5.heap.size:=HJ.out.base.size;by_cases hjm:j<m
  ·have q1:(j:Int)<m:=by omega
   have HI:=hZ(Gv w5 w5 b k' s HJ.out.self hs);have em:m - j=(m - (j+1))+1:=by omega
   go_wp2_with fail
   refine HI.out.mono ?_;rintro e w6(⟨hr,rfl,hg⟩ | ⟨x,r1,v,k2,hr,rfl,rfl,hS,rfl⟩)
   ·have ai:Hid(jC((byt s).drop k)=none):=by unfold Hid;rw [<-HE.out,em,sL hr]
    have HG:=hZ(ic HH.out.base(ic HJ.out.base hg));clear hr hg em;go_wp2_with fail
    exact⟨rfl,Or.inl⟨ai.out,rfl,HG.out⟩⟩
   have an:Hid(oJ(c++ [x])(jV mm(m - (j+1))((byt s).drop k2))=jC((byt s).drop k)):=by unfold Hid;rw [<-HE.out,em,tX hr]
   have aw:=hZ hS;have ac:=hZ(vw HO.out hS.base aq);have hw6:w.heap.size<=w6.heap.size:=Nat.le_trans ag hS.base.size;obtain⟨x1,x2,x3,rfl⟩:=iq ac.out;have al:=iy ac.out;subst al;have hcl:c.length<=16:=by have:=HC.out;omega
   have ap:c.length+1<=maxLen:=by unfold maxLen;omega
   clear hr hS em HI;unfold GI;go_wp2_with(at_builtin;go_must(refine wpList_append_lies _ rfl _ _ _ rfl w.heap.size 65 i0 _ 4 32 Tryz.underlying66 am ao ar au rfl(by omega)(.slice x1 c.length x3)c.length(jh c)rfl(iG ac.out)⟨w6.heap.size,0,none⟩1 1(vj x)rfl rfl(World.news_of_block(cs:= #[.int .i64 x.op, .int .i64 x.a, .int .i64 x.b, .int .i64 x.n])(t:=65)(fr:=(0,0))(heap_alloc_new w6 _))(CA x)(by omega)ap(by omega)(by simp;omega)(w6.heap.size+1)(by simp) ?_);intro g6 aj w7 ab aa af ah)
   have HN:Hid(RdS w w7 b s k2/\w7.ownsRow w.heap.size 65 4(.slice(some⟨g6,0,none⟩)(c.length+1)aj)(c++ [x]).length(jh(c++ [x]))):=by
    have ak:=iw ac.out;have ad:=(HJ.out.trans aw.out);refine⟨⟨?_, ?_,ad.le⟩, ?_⟩
    ·rw [aa.block b(by simp;omega)(fun e=>by have:=ak b e.symm;omega),Below.heap_alloc _ _ _(by omega)];exact ad.blk
    ·exact jD(ij ad.base)aa(fun q e=>ak q e)
    ·rw [pG];simpa using ab
   clear ab aa af ah;go_wp2_with fail
   go_roundw
   case rel=>exact⟨j+1,c++ [x],k2,by omega,by first | rfl | go_num,hZ(by simpa using HC.out),hZ HN.out.1,hZ HN.out.2,an⟩
   case measure=>simp [intOf];omega
  ·have q1:¬(j:Int)<m:=by omega
   have ej:m - j=0:=by omega
   have ai:Hid(jC((byt s).drop k)=some(c,(byt s).drop k')):=by unfold Hid;rw [<-HE.out,ej,sS]
   have ae:Hid(c.length<=16):=by unfold Hid;have:=HC.out;omega
   clear ej;go_wp2_with fail
   go_ret;exact Or.inr⟨c,_,_,k',ai.out,rfl,⟨ae.out,HO.out,vV HO.out⟩,HH.out.trans HJ.out,rfl⟩
end
section
open Go.RowKit
attribute [local go_sem] Go.World.cell?_alloc_some
theorem Bj(W w:World)(b k:Nat)(s:ByteArray)(h:RdS W w b s k)(hs:s.size<=9223372036854775806):
  Calls Tryz.prog 137 #[pt b]w(Rd W b s(fun w' p v=>p.length<=4/\∃ tv,v= .agg #[tv]/\ThrAt(w.heap.size+2)w'.heap.size w' tv p)(kQ((byt s).drop k))):=by
 obtain⟨i1,aG,hy0,hy1,hy2⟩:=info_parts AG;have HH:=hZ h;have hbw:=h.lt;have aQ:pt b= .pointer(some⟨b,0,none⟩):=rfl;rw [aQ]at*;clear h;go_enter Tryz.func137,Tryz.ntmps137
 go_wp2_with fail
 have I0:=InS.start(T:=37)HH.out.self #[.slice none 0 0] #[.slice none 0 0];generalize av:(w.alloc(.cells #[.slice none 0 0]37)).alloc(.cells #[.slice none 0 0]37)=w1 at I0 ⊢;have aP:w.heap.size+2<=w1.heap.size:=by rw [<-av];simp
 clear av;refine(vU w1 w1 b k s I0.rd.self hs 4).mono ?_;rintro e w2(⟨hr,rfl,hg⟩ | ⟨n,r1,v,k1,hr,rfl,rfl,hS,rfl⟩)
 ·have HR:Hid(kQ((byt s).drop k)=none):=by unfold Hid kQ;rw [hr]
  have HG:=hZ(ic HH.out.base(ic I0.rd.base hg));clear hr hg I0;go_wp2_with fail
  exact⟨rfl,Or.inl⟨HR.out,rfl,HG.out⟩⟩
 obtain⟨h0,h4⟩:=ni hr;obtain⟨m,rfl⟩:=Int.eq_ofNat_of_zero_le h0;have HR:Hid(kQ((byt s).drop k)=jV jC m((byt s).drop k1)):=by unfold Hid kQ;rw [hr];rfl
 have HI:=hZ(I0.call hS);have aI:w.heap.size+2<=w2.heap.size:=Nat.le_trans aP hS.base.size;clear hr hS h0 I0;go_wp2_with fail
 go_loopw [6](fun i w'=>∃ (j:Nat)(p:List(List Ins))(tv:Value)(k':Nat),j<=m/\i= .int .i64 j/\Hid(p.length=j)/\Hid(InS w w' b s k' 37(w.heap.size+1)w.heap.size #[tv] #[.slice none 0 0])/\Hid(ThrAt(w.heap.size+2)w'.heap.size w' tv p)/\w.heap.size+2<=w'.heap.size/\Hid(oJ p(jV jC(m - j)((byt s).drop k'))=kQ((byt s).drop k)))(fun i _=>m - (intOf i).toNat)
 case atStart=>exact⟨0, [], .slice none 0 0,k1,Nat.zero_le _,rfl,hZ rfl,HI,hZ⟨[],⟨rfl,Or.inl⟨rfl,rfl⟩⟩,fun h e=>(by cases e),fun j hj=>(by simp at hj),Apt.nil⟩,aI,hZ(by rw [HR.out,ux];rfl)⟩
 case round=>
  obtain⟨j,p,tv,k',hj,rfl,HC,HJ,HO,aq,HE⟩:=hrel;obtain⟨w5,ad⟩:∃ w5,w5=wr:=⟨_,rfl⟩;rw [<-ad]at HJ HO aq ⊢;clear ad;by_cases hjm:j<m
  ·have q1:(j:Int)<m:=by omega
   have em:m - j=(m - (j+1))+1:=by omega
   have HT:=hZ(Ci w5.drew w5.drew b k' s(HJ.out.rd.grown(ir(il _ _))).self hs);have cq:w5.cell?⟨w.heap.size+1,0,none⟩=some tv:=by simpa using HJ.out.cell 0
   go_wp2_with fail
   refine iu(fun u=>u.cell?⟨w.heap.size+1,0,none⟩=some tv)7(by kernel_rfl)(by kernel_rfl) ?_ ?_
   ·simp [go_sem,cq]
   intro hHeld;refine hY(i:=0)(v:= ?vv0)rfl(by kernel_rfl)(fun _ _ _ h=>h)(Or.inl⟨by rfl, ?hy0⟩)(by assumption) ?rest0
   case hy0=>(intro u hu;go_simp;try with_reducible rfl)
   simp only [Act.put,List.setIfInBounds_toArray];refine hY(i:=1)(v:= ?vv1)rfl(by kernel_rfl)(fun _ _ _ h=>h)(Or.inl⟨by rfl, ?hy1⟩)(by assumption) ?rest1
   case hy1=>(intro u hu;go_simp;try with_reducible rfl)
   simp only [Act.put];refine hY(i:=2)(v:= ?vv2)rfl(by kernel_rfl)(fun _ _ _ h=>h)(Or.inl⟨by rfl, ?hy2⟩)(by assumption) ?rest2
   case hy2=>(intro u hu;go_simp;try with_reducible rfl)
   simp only [Act.put];refine ip(i:=3)rfl(by kernel_rfl)(by kernel_rfl)(by rfl) ?_;intro K3 aB;have aC:=hZ aB;clear aB;go_simp;refine HT.out.mono ?_;rintro e w6(⟨hr,rfl,hg⟩ | ⟨x,r1,v,k2,hr,rfl,hv,hS,rfl⟩)
   ·have am:Hid(kQ((byt s).drop k)=none):=by unfold Hid;rw [<-HE.out,em,sL hr]
    have HG:=hZ(ic HH.out.base(ic HJ.out.rd.base(ic(ir(il _ _))hg)));clear hr hg em;exact⟨rfl,Or.inl⟨am.out,rfl,HG.out⟩⟩
   have aL:Hid(oJ(p++ [x])(jV jC(m - (j+1))((byt s).drop k2))=kQ((byt s).drop k)):=by unfold Hid;rw [<-HE.out,em,tX hr]
   have aA:w.heap.size+2<=w5.drew.heap.size:=aq;have an:w5.grownBy w6(some b):=ic(ir(il _ _))hS.base;have hw6:w.heap.size+2<=w6.heap.size:=Nat.le_trans aA hS.base.size;have ao:=hZ(HJ.out.call(RdS.trans(HJ.out.rd.self.grown(ir(il _ _)))hS));have ai:Hid(ThrAt(w.heap.size+2)w5.heap.size w6 tv p):=HO.out.step an(fun q e=>by simp only [Option.some.injEq]at e;omega);have aF:Hid(w5.heap.size<=w6.heap.size):=an.size;have aH:Hid(∀ q,v.ownBlock=some q->w5.heap.size<=q):=fun q e=>iw hv.2.1 q e
   have ak:Hid(CodeRow(w.heap.size+2)w6.heap.size w6 v x):=⟨iN hv.2.1 aA,hv.2.2⟩;obtain⟨v1,v2,v3,rfl⟩:=iq ak.out.1;obtain⟨t1,t2,t3,rfl⟩:=iq ai.out.choose_spec.1;obtain⟨rows,ae⟩:∃ rows,Hid(w6.ownsRow(w.heap.size+2)66 1(.slice t1 t2 t3)p.length rows):=⟨_,ai.out.choose_spec.1⟩;have aM:=iy ae.out;subst aM;have hpl:p.length<=4:=by have:=HC.out;omega
   have az:w6.cell?⟨w.heap.size+1,0,none⟩=some(.slice t1 p.length t3):=by simpa using ao.out.cell 0
   clear hr hS an em HT hv HO HJ;refine aC.out _ _ az ?_;clear aC;try simp only [Act.put,List.setIfInBounds_toArray]
   refine ip(i:=4)rfl(by kernel_rfl)(by kernel_rfl)(by rfl) ?_;intro K4 ay;have ax:=hZ ay;clear ay;go_simp;have af:w6.grownBy(w6.alloc(.cells #[.slice v1 v2 v3]66))none:=ij(il _ _);refine ax.out _ _(ie af _ _ az) ?_;clear ax;have aO:p.length+1<=maxLen:=by unfold maxLen;omega
   have aD:(p.length+1)*24<=140737488355328:=by omega
   refine ip(i:=5)rfl(by kernel_rfl)(by kernel_rfl)(by rfl) ?_;intro K5 aw;have ar:=hZ aw;clear aw;refine wp_append_lies _(.tmp 9)(.tmp 12)35(by rfl)(w.heap.size+2)66 i1 _ 1 24 Tryz.underlying35 aG hy0 hy1 hy2 rfl(by omega)(.slice t1 p.length t3)p.length rows(by rfl)(iG ae.out)⟨w6.heap.size,0,none⟩1 1 [.slice v1 v2 v3](by rfl)(by rfl)(World.news_of_block(cs:= #[.slice v1 v2 v3])(t:=66)(fr:=(0,0))(heap_alloc_new w6 _))(by simp [Value.oneCell'])(by omega)aO aD(by simp;omega)(w6.heap.size+1)(by simp) ?_;intro g2 ab w7 ac aa aE al;have au:∀ q,(Value.slice t1 p.length t3).ownBlock=some q->w.heap.size+2<=q:=fun q e=>iw ae.out q e
   have aj:∀ q,q<w.heap.size+2->w7.heap[q]?=w6.heap[q]?:=fun q hq=>by
    rw [aa.block q(by simp;omega)(fun e=>by have:=au q e.symm;omega),af.block q(by omega)(by simp)]
   have ag:Hid(InS w w7 b s k2 37(w.heap.size+1)w.heap.size #[.slice t1 p.length t3] #[.slice none 0 0]):=by
    have I:=ao.out;exact⟨⟨by rw [aj _(by omega)];exact I.rd.blk,jD(ic I.rd.base(lX af))aa(fun q e=>by have:=au q e;omega),I.rd.le⟩,by rw [aj _(by omega)];exact I.var,by rw [aj _(by omega)];exact I.res,I.cb,I.db,I.cd,I.lc,I.ld⟩
   have aK:w7.cell?⟨w.heap.size+1,0,none⟩=some(.slice t1 p.length t3):=by simpa using ag.out.cell 0
   have hsz7:w6.heap.size+1<=w7.heap.size:=by have:=aa.size;simpa using this
   have ap:Hid(ThrAt(w.heap.size+2)w7.heap.size w7(.slice(some⟨g2,0,none⟩)(p.length+1)ab)(p++ [x])):=
    ThrAt.snoc ai.out aF.out aH.out ae.out ak.out af aa ac(by omega)(vV ac)
   clear ac aa aE al aj af ai ae ak ao;refine ar.out _ _ aK ?_;clear ar;try simp only [Act.put,List.setIfInBounds_toArray]
   refine hY(i:=6)(v:= ?vv6)rfl(by kernel_rfl)(fun _ _ _ h=>h)(Or.inl⟨by rfl, ?hy6⟩)(by assumption) ?rest6
   case hy6=>(intro u hu;go_simp;try with_reducible rfl)
   simp only [Act.put];refine iE rfl(by kernel_rfl)(by kernel_rfl)(by rfl) ?_;have s7f:w7.frozen?⟨w.heap.size+1,0,none⟩=false:=ag.out.free 0;have aR:=hZ(ag.out.set 0(.slice(some⟨g2,0,none⟩)(p.length+1)ab));have ah:Hid(ThrAt(w.heap.size+2)(w7.setCell⟨w.heap.size+1,0,none⟩(.slice(some⟨g2,0,none⟩)(p.length+1)ab)).heap.size(w7.setCell⟨w.heap.size+1,0,none⟩(.slice(some⟨g2,0,none⟩)(p.length+1)ab))(.slice(some⟨g2,0,none⟩)(p.length+1)ab)(p++ [x])):=by
    have:=ap.out.step(iS(w:=w7)(b:=w.heap.size+1)(o:=0)(v:= .slice(some⟨g2,0,none⟩)(p.length+1)ab))(fun q e=>by simp only [Option.some.injEq]at e;omega);exact this.mono(by simp)
   have aJ:w.heap.size+2<=(w7.setCell⟨w.heap.size+1,0,none⟩(.slice(some⟨g2,0,none⟩)(p.length+1)ab)).heap.size:=by simp;omega
   clear ag ap;go_simp;go_wp2
   go_roundw
   case rel=>exact⟨j+1,p++ [x],_,k2,by omega,by first | rfl | go_num,hZ(by simpa using HC.out),aR,ah,aJ,aL⟩
   case measure=>simp [intOf];omega
  ·have q1:¬(j:Int)<m:=by omega
   have ej:m - j=0:=by omega
   have am:Hid(kQ((byt s).drop k)=some(p,(byt s).drop k')):=by unfold Hid;rw [<-HE.out,ej,sS]
   have aN:Hid(p.length<=4):=by unfold Hid;have:=HC.out;omega
   obtain⟨t1,t2,t3,rfl⟩:=iq HO.out.choose_spec.1;have cq:w5.cell?⟨w.heap.size+1,0,none⟩=some(.slice t1 t2 t3):=by simpa using HJ.out.cell 0
   have cr:w5.cell?⟨w.heap.size,0,none⟩=some(.slice none 0 0):=by simpa using HJ.out.rcell 0
   have fr:=HJ.out.rfree 0;clear ej;go_wp2_with fail
   have J:=HJ.out.rset 0(.slice t1 t2 t3);have ah:ThrAt(w.heap.size+2)(w5.setCell⟨w.heap.size,0,none⟩(.slice t1 t2 t3)).heap.size(w5.setCell⟨w.heap.size,0,none⟩(.slice t1 t2 t3))(.slice t1 t2 t3)p:=by
    have:=HO.out.step(iS(w:=w5)(b:=w.heap.size)(o:=0)(v:= .slice t1 t2 t3))(fun q e=>by simp only [Option.some.injEq]at e;omega);exact this.mono(by simp)
   clear cq cr fr HJ HO;generalize w5.setCell⟨w.heap.size,0,none⟩(.slice t1 t2 t3)=wz at J ah ⊢;have e0:wz.cell?⟨w.heap.size,0,none⟩=some(.slice t1 t2 t3):=by simpa using J.rcell 0
   refine bodyPost_ret(v:= .agg #[.slice t1 t2 t3]) ?_ rfl ?_
   ·simp [results,Tryz.results137,go_sem,e0]
   ·exact Or.inr⟨p,_,_,k',am.out,rfl,⟨aN.out,_,rfl,ah⟩,HH.out.trans J.rd,rfl⟩
end
section
open Go.RowKit
attribute [local go_sem] Go.World.cell?_alloc_some
theorem tV(m:Nat)(aa:List Int)(l:List Nat):lp(m+1)aa l=match oO(500 - aa.length)l with
  | none=>none
  | some((t,c),r)=>if aa.getLast?≠some t then lp m(aa++List.replicate c.toNat t)r else none:=by
 rw [lp,oO];cases jn l with
 | none=>rfl
 | some x=>
  obtain⟨t,r⟩:=x;simp only;cases kO(500 - aa.length)r with
  | none=>rfl
  | some y=>
   obtain⟨c,r'⟩:=y;simp only;by_cases hc:0<c
   ·simp [hc]
   ·simp [hc]
theorem xK {aa:Int} {l r:List Nat} {t c:Int}(h:oO aa l=some((t,c),r)):0<=t/\t<=9223372036854775807/\0<c/\c<=aa:=by
 unfold oO at h;split at h
 ·cases h
 ·rename_i t' r' hw
  split at h
  ·cases h
  ·rename_i c' r'' hm
   split at h
   ·simp only [Option.some.injEq,Prod.mk.injEq]at h;obtain⟨⟨rfl,rfl⟩,rfl⟩:=h;have h1:=pd hw;have h2:=ni hm;have h3:t'<=9223372036854775807:=by
     unfold jn at hw;split at hw
     ·split at hw
      ·simp only [Option.some.injEq,Prod.mk.injEq]at hw;omega
      ·cases hw
     ·cases hw
    exact⟨h1,h3,by assumption,h2.2⟩
   ·cases h
structure Box(p:Prop):Prop where
 out:p
section
variable {P : Program} {ops : Array Oper} {w : World} {Q : Act -> Prop} {a : Act} {o : Oper} {rest : List Oper}
theorem DP(hw:Region.wanted o(yielded ops a.tmps)=false)(h:Box(wpStill P ops w Q rest(a.put o.dst undef))):Box(wpStill P ops w Q(o::rest)a):=by
 refine⟨?_⟩;unfold wpStill;rw [if_neg(by rw [hw];simp)];exact h.out
theorem mU(hw:Region.wanted o(yielded ops a.tmps)=true)(h:∀ K:Act->Prop,(∀ a,Box(wpStill P ops w Q rest a)->K a)->o.still P a w K):Box(wpStill P ops w Q(o::rest)a):=by
 refine⟨?_⟩;unfold wpStill;rw [if_pos hw];exact h _(fun _ h=>h.out)
theorem vo(h:Q a):Box(wpStill P ops w Q []a):=⟨h⟩
theorem pU {id:Nat} {Q:Exit->Act->World->Prop} {a:Act} {w:World} {l:List Oper}(n:Nat)(hm:P.follows .mixedOrders=true)(hB:Region.lexTailB .any l.toArray n=true)
  (h:Box(wpStill P l.toArray w.drew(fun a'=>wpList P l.toArray Q(l.drop n)a' w.drew)(l.take n)a)):(Code.region id l.toArray true).wp P Q a w:=wp_region_still_tail n hm hB h.out
end
theorem zp(W w:World)(b k:Nat)(s:ByteArray)(h:RdS W w b s k)(hs:s.size<=9223372036854775806):
  Calls Tryz.prog 138 #[pt b]w(Rd W b s(fun w' l v=>l.length<=500/\w'.ownsRow w.heap.size 3 1 v l.length(iI l))(jP((byt s).drop k))):=by
 have HM:=hZ(vU w w b k s h.self hs 500);have HH:=hZ h;have aE:=h.lt;have aG:pt b= .pointer(some⟨b,0,none⟩):=rfl;rw [aG]at*;clear h;go_enter Tryz.func138,Tryz.ntmps138
 go_wp2_with fail
 refine HM.out.mono ?_;rintro e w1(⟨hr,rfl,hg⟩ | ⟨n,r1,v,k1,hr,rfl,rfl,hS,rfl⟩)
 ·have HR:Hid(jP((byt s).drop k)=none):=by unfold Hid jP;rw [hr]
  have HG:=hZ(ic HH.out.base hg);clear hr hg;go_wp2_with fail
  exact⟨rfl,Or.inl⟨HR.out,rfl,HG.out⟩⟩
 obtain⟨h0,h500⟩:=ni hr;obtain⟨m,rfl⟩:=Int.eq_ofNat_of_zero_le h0;have HR:Hid(jP((byt s).drop k)=lp m []((byt s).drop k1)):=by unfold Hid jP;rw [hr];rfl
 have HS:=hZ hS;clear hr hS h0 HM;go_wp2_with fail
 go_loopw [3,8](fun lv i w'=>∃ (j:Nat)(l:List Int)(k':Nat),j<=m/\i= .int .i64 j/\l.length<=500/\Hid(j=0↔l= [])/\Hid(RdS w w' b s k')/\Hid(w'.ownsRow w.heap.size 3 1 lv l.length(iI l))/\Hid(lp(m - j)l((byt s).drop k')=jP((byt s).drop k)))(fun _ i _=>m - (intOf i).toNat)
 case atStart=>exact⟨0, [],k1,Nat.zero_le _,rfl,Nat.zero_le _,hZ⟨fun _=>rfl,fun _=>rfl⟩,HS,hZ⟨rfl,Or.inl⟨rfl,rfl⟩⟩,hZ(by rw [HR.out];rfl)⟩
 case round=>
  obtain⟨j,l,k',hj,rfl,aC,HC,HJ,HO,HE⟩:=hrel;obtain⟨w5,ag⟩:∃ w5,w5=wr:=⟨_,rfl⟩;rw [<-ag]at HJ HO ⊢;clear ag;have aB:w.heap.size<=w5.heap.size:=HJ.out.base.size;obtain⟨s1,s2,s3,rfl⟩:=iq HO.out;have aF:=iy HO.out;subst aF;by_cases hjm:j<m
  ·have q1:(j:Int)<m:=by omega
   have em:m - j=(m - (j+1))+1:=by omega
   have HT:=hZ(GK w5 w5 b k' s(500 - (l.length:Int))HJ.out.self hs);go_wp2_with fail
   refine HT.out.mono ?_;rintro e w6(⟨hr,rfl,hg⟩ | ⟨x,r1,v,k2,hr,rfl,rfl,hS,rfl⟩)
   ·have aq:Hid(jP((byt s).drop k)=none):=by unfold Hid;rw [<-HE.out,em,tV,hr]
    have HG:=hZ(ic HH.out.base(ic HJ.out.base hg));clear hr hg em;go_wp2_with fail
    exact⟨rfl,Or.inl⟨aq.out,rfl,HG.out⟩⟩
   obtain⟨t,c⟩:=x;obtain⟨t0,t1,c0,c1⟩:=xK hr;have af:Hid(jP((byt s).drop k)=if l.getLast?≠some t then lp(m - (j+1))(l++List.replicate c.toNat t)((byt s).drop k2)else none):=by unfold Hid;rw [<-HE.out,em,tV,hr]
   have ay:=hZ(HJ.out.trans hS);have ax:=hZ(vw HO.out hS.base aE);have hw6:w.heap.size<=w6.heap.size:=Nat.le_trans aB hS.base.size;clear hr hS em HT HE HJ HO;obtain⟨c',rfl⟩:=Int.eq_ofNat_of_zero_le(show 0<=c by omega);have an:c'<=501:=by omega
   unfold GH;go_wp2_with fail
   have ae:Hid(RdS w(w6.alloc(.cells #[.int .i64 t, .int .i64(c':Int)]187))b s k2):=ay.out.grown(ij(il _ _));have aj:Hid((w6.alloc(.cells #[.int .i64 t, .int .i64(c':Int)]187)).ownsRow w.heap.size 3 1(.slice s1 l.length s3)l.length(iI l)):=iG ax.out;have a0:(w6.alloc(.cells #[.int .i64 t, .int .i64(c':Int)]187)).cell?⟨w6.heap.size,0,none⟩=some(.int .i64 t):=by
    have:=heap_alloc_new w6(.cells #[.int .i64 t, .int .i64(c':Int)]187);simp only [World.cell?,this];rfl
   have a1:(w6.alloc(.cells #[.int .i64 t, .int .i64(c':Int)]187)).cell?⟨w6.heap.size,1,none⟩=some(.int .i64(c':Int)):=by
    have:=heap_alloc_new w6(.cells #[.int .i64 t, .int .i64(c':Int)]187);simp only [World.cell?,this];rfl
   generalize w6.alloc(.cells #[.int .i64 t, .int .i64(c':Int)]187)=wA at ae aj a0 a1 ⊢;have az:=hZ(wL w wA.drew(some b)(.slice s1 l.length s3)l t c'(iA aj.out(ir(il _ none))(fun _ e=>by cases e))(ir ae.out.base)an(by omega));have ab:∀ (w8:World)(sv:Value),w8.ownsRow w.heap.size 3 1 sv(l++List.replicate c' t).length(iI(l++List.replicate c' t))->w.grownBy w8(some b)->wA.drew.grownBy w8(Value.slice s1 l.length s3).ownBlock->RdS w w8 b s k2:=by
    intro w8 sv h1 h2 h3;refine⟨?_,h2,ae.out.le⟩;have aD:=iw aj.out;rw [h3.block b(by have:=ae.out.lt;exact this)(fun e=>by have:=aD b e.symm;omega)];exact ae.out.blk
   have aw:=hZ ab;have ao:(l++List.replicate c' t).length<=500:=by simp;omega
   have am:=hZ ao;have ah:Hid(j+1=0↔l++List.replicate c' t= []):=by
    unfold Hid;refine⟨fun e=>by omega,fun e=> ?_⟩;have:=congrArg List.length e;simp at this;omega
   clear ab ao ay ax;by_cases av:j=0
   ·have qz:((j:Int)==0)=true:=by simp;omega
    have aA:l= []:=HC.out.1 av;have ai:Hid(lp(m - (j+1))(l++List.replicate c' t)((byt s).drop k2)=jP((byt s).drop k)):=by
     unfold Hid;rw [af.out,if_pos(by rw [aA];simp)];rfl
    clear aA av af HC;refine pU 13(by kernel_rfl)(by kernel_rfl) ?_;simp only [List.take_succ_cons,List.take_zero,List.drop_succ_cons,List.drop_zero];iterate 3(refine mU(by rfl)(fun K hK=> ?_);go_simp;refine hK _ ?_;clear hK K)
    iterate 9(refine DP(by rfl) ?_;simp only [Act.put,List.setIfInBounds_toArray,List.set_cons_succ,List.set_cons_zero])
    refine mU(by rfl)(fun K hK=> ?_);go_simp;refine hK _ ?_;clear hK K
    refine vo ?_;go_wp2_with(first | (go_at_call 141;refine(jZ _).mono ?_;rintro e w7⟨⟨v7,rfl⟩,rfl⟩) | (go_at_call 102;refine az.out.mono ?_;rintro e w8⟨sv,rfl,ac,al,ak,⟨z1,z2,z3,rfl⟩⟩))
    have ar:=hZ ac;have au:=hZ(aw.out _ _ ac al ak);clear ac al ak;go_wp2_with fail
    go_roundw
    case rel=>exact⟨j+1,l++List.replicate c' t,k2,by omega,by first | rfl | go_num,am.out,ah,au,ar,ai⟩
    case measure=>simp [intOf];omega
   ·have qz:((j:Int)==0)=false:=by simp;omega
    have aa:l≠ []:=fun e=>av(HC.out.2 e)
    have hlp:0<l.length:=List.length_pos_iff.2 aa;obtain⟨g,cap,eg,_,_⟩:=aj.out.form(by omega);simp only [Value.slice.injEq]at eg;obtain⟨rfl,_,rfl⟩:=eg;have hcell:wA.cell?⟨g,l.length - 1,none⟩=some(.int .i64(l.getLast aa)):=by
     rw [aj.out.cellAt _(by omega)];have:l.length - 1<l.length:=by omega
     simp [iI,List.getLast_eq_getElem]
    have ap:Hid(l.getLast?=some(l.getLast aa)):=List.getLast?_eq_some_getLast aa;generalize l.getLast aa=y at*;have q3:(0:Int)<=(l.length:Int) - 1:=by omega
    have q7:(1:Int)<=(l.length:Int):=by omega
    have q4:(l.length:Int) - 1<l.length:=by omega
    have q5:((l.length:Int) - 1).toNat=l.length - 1:=by omega
    have q6:IntKind.i64.wrap((l.length:Int) - 1)=(l.length:Int) - 1:=by rw [IntKind.wrap_i64];omega
    clear aa;by_cases ad:t=y
    ·have qn:(t !=y)=false:=by simp [ad]
     have ai:Hid(jP((byt s).drop k)=none):=by
      unfold Hid;rw [af.out,ap.out,if_neg(by simp [ad])]
     clear ad af HC ap;refine pU 13(by kernel_rfl)(by kernel_rfl) ?_;simp only [List.take_succ_cons,List.take_zero,List.drop_succ_cons,List.drop_zero];iterate 3(refine mU(by rfl)(fun K hK=> ?_);go_simp;refine hK _ ?_;clear hK K)
     iterate 9(refine mU(by rfl)(fun K hK=> ?_);go_simp;refine hK _ ?_;clear hK K)
     refine mU(by rfl)(fun K hK=> ?_);go_simp;refine hK _ ?_;clear hK K
     refine vo ?_;go_wp2_with(go_at_call 141;refine(jI _).mono ?_;rintro e w7⟨rfl,rfl⟩)
     exact⟨rfl,Or.inl⟨ai.out,rfl,ic HH.out.base(ir ae.out.base)⟩⟩
    ·have qn:(t !=y)=true:=by simp [ad]
     have ai:Hid(lp(m - (j+1))(l++List.replicate c' t)((byt s).drop k2)=jP((byt s).drop k)):=by
      unfold Hid;rw [af.out,ap.out,if_pos(by simp;exact fun e=>ad e.symm)];rfl
     clear ad af HC ap;refine pU 13(by kernel_rfl)(by kernel_rfl) ?_;simp only [List.take_succ_cons,List.take_zero,List.drop_succ_cons,List.drop_zero];iterate 3(refine mU(by rfl)(fun K hK=> ?_);go_simp;refine hK _ ?_;clear hK K)
     iterate 9(refine mU(by rfl)(fun K hK=> ?_);go_simp;refine hK _ ?_;clear hK K)
     refine mU(by rfl)(fun K hK=> ?_);go_simp;refine hK _ ?_;clear hK K
     refine vo ?_;go_wp2_with(first | (go_at_call 141;refine(jZ _).mono ?_;rintro e w7⟨⟨v7,rfl⟩,rfl⟩) | (go_at_call 102;refine az.out.mono ?_;rintro e w8⟨sv,rfl,ac,al,ak,⟨z1,z2,z3,rfl⟩⟩))
     have ar:=hZ ac;have au:=hZ(aw.out _ _ ac al ak);clear ac al ak;go_wp2_with fail
     go_roundw
     case rel=>exact⟨j+1,l++List.replicate c' t,k2,by omega,by first | rfl | go_num,am.out,ah,au,ar,ai⟩
     case measure=>simp [intOf];omega
  ·have q1:¬(j:Int)<m:=by omega
   have ej:m - j=0:=by omega
   have aq:Hid(jP((byt s).drop k)=some(l,(byt s).drop k')):=by unfold Hid;rw [<-HE.out,ej,lp]
   clear ej;go_wp2_with fail
   go_ret;exact Or.inr⟨l,_,_,k',aq.out,rfl,⟨aC,HO.out⟩,HH.out.trans HJ.out,rfl⟩
end
section
open Go.RowKit
attribute [local go_sem] Go.World.cell?_alloc_some
theorem E6(c:Nat)(hc:c<4294967296):bits .and .u32(c:Int)1=((c % 2:Nat):Int):=by
 have:=u32_and_nat c 1 hc(by decide);rw [nat_mask1]at this;exact this
theorem Fw(c:Nat)(hc:c<4294967296):bits .xor .u32(c:Int)3988292384=((c ^^^ 3988292384:Nat):Int):=u32_xor_nat c 3988292384 hc(by decide)
theorem FA(c:Nat)(hc:c<4294967296)(w:World):Calls Tryz.prog 170 #[.int .u32 c]w fun e w'=>e= .returned(.int .u32(shN c))/\w'=w:=by
 have h1:=E6 c hc;have h2:=Fw(c / 2)(by omega);by_cases h:c % 2=1
 ·have HS:Hid(shN c=(c / 2) ^^^ 3988292384):=by unfold Hid shN;rw [if_pos h]
  rw [h]at h1;go_enter Tryz.func170,Tryz.ntmps170
  go_wp2_with fail
  go_ret;refine⟨?_,rfl⟩;have e:((c:Int)/ 2)=((c / 2:Nat):Int):=by omega
  rw [HS.out,e,h2];rfl
 ·have HS:Hid(shN c=c / 2):=by unfold Hid shN;rw [if_neg h]
  have h0:c % 2=0:=by omega
  rw [h0]at h1;go_enter Tryz.func170,Tryz.ntmps170
  go_wp2_with fail
  go_ret;refine⟨?_,rfl⟩;rw [HS.out];have e:((c:Int)/ 2)=((c / 2:Nat):Int):=by omega
  rw [e];rfl
theorem uT(s:ByteArray)(w:World)(hs:s.size<=9223372036854775806):Calls Tryz.prog 135 #[.string s]w fun e w'=>e= .returned(.int .u32(lF(byt s)))/\jr w' w:=by
 go_enter Tryz.func135,Tryz.ntmps135
 go_wp2_with fail
 go_loopw [3,7](fun cv i w'=>∃ (k:Nat)(c:Nat),k<=s.size/\cv= .int .u32 c/\i= .int .i64 k/\c<4294967296/\Hid(c=sw 4294967295((byt s).take k))/\Hid(jr w' w))(fun _ i _=>s.size - (intOf i).toNat)
 case atStart=>exact⟨0,4294967295,Nat.zero_le _,rfl,rfl,by decide,hZ rfl,hZ(jp _)⟩
 case round=>
  obtain⟨k,c,hk,rfl,rfl,hc,HC,HL⟩:=hrel;obtain⟨w5,af⟩:∃ w5,w5=wr:=⟨_,rfl⟩;subst af;by_cases ac:k<s.size
  ·have q1:(k:Int)<s.size:=by omega
   have hb:=s[k].toNat_lt;have hx:=u32_xor_nat c s[k].toNat hc(by omega);have ai:c ^^^ s[k].toNat<4294967296:=Nat.xor_lt_two_pow(n:=32)hc(by omega);have HX:Hid(sw 4294967295((byt s).take(k+1))=shK 8(c ^^^ s[k].toNat)):=by
    unfold Hid;have hl:k<(byt s).length:=by rw [iP];exact ac
    have h2:=mr s k ac;rw [List.getElem?_eq_getElem hl]at h2;rw [<-List.take_append_getElem hl,sh,<-HC.out,Option.some.inj h2];rfl
   generalize c ^^^ s[k].toNat=d at*;clear HC;have ah:=HL;clear HL;go_wp2_with fail
   go_loopw [3,16](fun cv i w'=>∃ (j:Nat)(c':Nat),j<=8/\cv= .int .u32 c'/\i= .int .i64 j/\c'<4294967296/\Hid(c'=shK j d)/\Hid(w'=w5))(fun _ i _=>8 - (intOf i).toNat)
   case atStart=>exact⟨0,d,Nat.zero_le _,rfl,rfl,ai,hZ rfl,hZ rfl⟩
   case round=>
    obtain⟨j,c',hj,rfl,rfl,aa,HJ,ae⟩:=hrel;rw [ae.out];clear ae;by_cases hj8:j<8
    ·have q2:(j:Int)<8:=by omega
     have HN:Hid(shN c'=shK(j+1)d):=by
      unfold Hid;rw [HJ.out,zR];rfl
     have ag:=hZ(Ct aa);have aj:=hZ(FA c' aa w5);go_wp2_with(go_at_call 170;refine aj.out.mono ?_;rintro e w6⟨rfl,rfl⟩)
     go_roundw
     case rel=>exact⟨j+1,shN c',by omega,rfl,by first | rfl | (congr 1),ag.out,HN,by first | exact hZ rfl | exact hZ trivial⟩
     case measure=>simp [intOf];omega
    ·have q2:¬(j:Int)<8:=by omega
     have ab:j=8:=by omega
     subst ab;go_wp2_with fail
     go_roundw
     case rel=>exact⟨k+1,c',by omega,rfl,by first | rfl | (congr 1),aa,hZ(by rw [HX.out];exact HJ.out),ah⟩
     case measure=>simp [intOf];omega
  ·have q1:¬(k:Int)<s.size:=by omega
   have hx:=u32_xor_nat 4294967295 c(by decide)hc;have ad:k=s.size:=by omega
   have HR:Hid(lF(byt s)=4294967295 ^^^ c):=by
    unfold Hid lF;rw [HC.out,ad,<-iP,List.take_length]
   clear ad;go_wp2_with fail
   go_ret;refine⟨?_,HL.out⟩;rw [HR.out,<-hx];rfl
end
section
open Go.RowKit
attribute [local go_sem] Go.World.cell?_alloc_some
def iX:List Nat->List Nat->Option(Unit × List Nat)
 | [],l=>some((),l)
 | _::_, []=>none
 | x::xs,y::l=>if y=x then iX xs l else none
theorem sP(xs l r:List Nat):iX xs l=some((),r)↔l=xs++r:=by
 induction xs generalizing l with
 | nil=>simp [iX]
 | cons x xs ih=>
  cases l with
  | nil=>simp [iX]
  | cons y l=>
   simp only [iX];by_cases h:y=x
   ·rw [if_pos h,ih,h];simp
   ·rw [if_neg h];simp [h]
theorem FN(W w:World)(b k:Nat)(s:ByteArray)(h:RdS W w b s k)(hs:s.size<=9223372036854775806):
  Calls Tryz.prog 136 #[pt b]w(Rd W b s(fun _ _ _=>True)(iX [82,82,1]((byt s).drop k))):=by
 have HH:=hZ h;have ai:pt b= .pointer(some⟨b,0,none⟩):=rfl;rw [ai];clear h ai;go_enter Tryz.func136,Tryz.ntmps136
 go_wp2_with fail
 go_loopw [3](fun i w'=>∃ (j k':Nat),j<=3/\i= .int .i64 j/\Hid(RdS W w' b s k')/\Hid(iX([82,82,1].drop j)((byt s).drop k')=iX [82,82,1]((byt s).drop k)))(fun i _=>3 - (intOf i).toNat)
 case atStart=>exact⟨0,k,by omega,rfl,HH,hZ rfl⟩
 case round=>
  obtain⟨j,k',hj,rfl,HS,HE⟩:=hrel;obtain⟨w5,ah⟩:∃ w5,w5=wr:=⟨_,rfl⟩;rw [<-ah]at HS ⊢;clear ah;have aj:j=0\/j=1\/j=2\/j=3:=by omega
  rcases aj with rfl | rfl | rfl | rfl
  ·have HX:Hid(([82,82,1]:List Nat).drop 0=82:: [82,82,1].drop 1):=rfl;have qb:(({ data:= #[82,82,1] }:ByteArray)[0]).toNat=82:=rfl;by_cases hk:k'<s.size
   ·have HB:=hZ(ly s k' hk);have af:=hZ(nF W w5.drew b k' s(HS.out.grown(ir(il _ _)))hs hk);generalize s[k'].toNat=y at*;by_cases hy:y=82
    ·have qy:((y:Int)==82)=true:=by simp;omega
     have ae:Hid(iX(([82,82,1]).drop(1))((byt s).drop(k'+1))=iX([82,82,1])((byt s).drop k)):=by
      unfold Hid;rw [<-HE.out,HB.out,HX.out,iX,if_pos hy]
     clear hy;go_wp2_with fail
     refine iu(fun _=>True)5(by kernel_rfl)(by kernel_rfl)trivial ?_;intro ab;refine hY(i:=0)(v:= ?vv0_1)rfl(by kernel_rfl)(fun _ _ _ h=>h)(Or.inl⟨by rfl, ?hy0_1⟩)trivial ?rest0_1
     case hy0_1=>(intro u hu;go_simp;try with_reducible rfl)
     simp only [Act.put,List.setIfInBounds_toArray];refine hY(i:=2)(v:= ?vv2_2)rfl(by kernel_rfl)(fun _ _ _ h=>h)(Or.inl⟨by rfl, ?hy2_2⟩)trivial ?rest2_2
     case hy2_2=>(intro u hu;go_simp;try with_reducible rfl)
     simp only [Act.put];refine hY(i:=3)(v:= ?vv3_3)rfl(by kernel_rfl)(fun _ _ _ h=>h)(Or.inl⟨by rfl, ?hy3_3⟩)trivial ?rest3_3
     case hy3_3=>(intro u hu;go_simp;try with_reducible rfl)
     simp only [Act.put];refine ip(i:=1)rfl(by kernel_rfl)(by kernel_rfl)(by rfl) ?_;intro K1 aa;have ad:=hZ aa;clear aa;go_simp;refine af.out.mono ?_;rintro e w6⟨rfl,ac⟩;have ag:=hZ ac;clear ac;refine ad.out _ _ trivial ?_;clear ad;try simp only [Act.put,List.setIfInBounds_toArray]
     refine hY(i:=4)(v:= ?vv4_4)rfl(by kernel_rfl)(fun _ _ _ h=>h)(Or.inl⟨by rfl, ?hy4_4⟩)trivial ?rest4_4
     case hy4_4=>(intro u hu;go_simp;try with_reducible rfl)
     simp only [Act.put];refine iE rfl(by kernel_rfl)(by kernel_rfl)(by rfl) ?_;go_simp;refine(jZ _).mono ?_;rintro e w7⟨⟨v7,rfl⟩,rfl⟩;go_wp2_with fail
     go_roundw
     case rel=>exact⟨1,k'+1,by omega,by first | rfl | go_num,ag,ae⟩
     case measure=>simp [intOf]
    ·have qy:((y:Int)==82)=false:=by simp;omega
     have ae:Hid(iX([82,82,1])((byt s).drop k)=none):=by
      unfold Hid;rw [<-HE.out,HB.out,HX.out,iX,if_neg hy]
     clear hy;go_wp2_with fail
     refine iu(fun _=>True)5(by kernel_rfl)(by kernel_rfl)trivial ?_;intro ab;refine hY(i:=0)(v:= ?vv0_5)rfl(by kernel_rfl)(fun _ _ _ h=>h)(Or.inl⟨by rfl, ?hy0_5⟩)trivial ?rest0_5
     case hy0_5=>(intro u hu;go_simp;try with_reducible rfl)
     simp only [Act.put,List.setIfInBounds_toArray];refine hY(i:=2)(v:= ?vv2_6)rfl(by kernel_rfl)(fun _ _ _ h=>h)(Or.inl⟨by rfl, ?hy2_6⟩)trivial ?rest2_6
     case hy2_6=>(intro u hu;go_simp;try with_reducible rfl)
     simp only [Act.put];refine hY(i:=3)(v:= ?vv3_7)rfl(by kernel_rfl)(fun _ _ _ h=>h)(Or.inl⟨by rfl, ?hy3_7⟩)trivial ?rest3_7
     case hy3_7=>(intro u hu;go_simp;try with_reducible rfl)
     simp only [Act.put];refine ip(i:=1)rfl(by kernel_rfl)(by kernel_rfl)(by rfl) ?_;intro K1 aa;have ad:=hZ aa;clear aa;go_simp;refine af.out.mono ?_;rintro e w6⟨rfl,ac⟩;have ag:=hZ ac;clear ac;refine ad.out _ _ trivial ?_;clear ad;try simp only [Act.put,List.setIfInBounds_toArray]
     refine hY(i:=4)(v:= ?vv4_8)rfl(by kernel_rfl)(fun _ _ _ h=>h)(Or.inl⟨by rfl, ?hy4_8⟩)trivial ?rest4_8
     case hy4_8=>(intro u hu;go_simp;try with_reducible rfl)
     simp only [Act.put];refine iE rfl(by kernel_rfl)(by kernel_rfl)(by rfl) ?_;go_simp;refine(jI _).mono ?_;rintro e w7⟨rfl,rfl⟩;exact⟨rfl,Or.inl⟨ae.out,rfl,ag.out.base⟩⟩
   ·have e0:Hid((byt s).drop k'= []):=List.drop_eq_nil_iff.2(by rw [iP];omega);have af:=hZ(nH W w5.drew b k' s(HS.out.grown(ir(il _ _)))hs hk);have ae:Hid(iX([82,82,1])((byt s).drop k)=none):=by
     unfold Hid;rw [<-HE.out,e0.out,HX.out,iX]
    go_wp2_with fail
    refine iu(fun _=>True)5(by kernel_rfl)(by kernel_rfl)trivial ?_;intro ab;refine hY(i:=0)(v:= ?vv0_9)rfl(by kernel_rfl)(fun _ _ _ h=>h)(Or.inl⟨by rfl, ?hy0_9⟩)trivial ?rest0_9
    case hy0_9=>(intro u hu;go_simp;try with_reducible rfl)
    simp only [Act.put,List.setIfInBounds_toArray];refine hY(i:=2)(v:= ?vv2_10)rfl(by kernel_rfl)(fun _ _ _ h=>h)(Or.inl⟨by rfl, ?hy2_10⟩)trivial ?rest2_10
    case hy2_10=>(intro u hu;go_simp;try with_reducible rfl)
    simp only [Act.put];refine hY(i:=3)(v:= ?vv3_11)rfl(by kernel_rfl)(fun _ _ _ h=>h)(Or.inl⟨by rfl, ?hy3_11⟩)trivial ?rest3_11
    case hy3_11=>(intro u hu;go_simp;try with_reducible rfl)
    simp only [Act.put];refine ip(i:=1)rfl(by kernel_rfl)(by kernel_rfl)(by rfl) ?_;intro K1 aa;have ad:=hZ aa;clear aa;go_simp;refine af.out.mono ?_;rintro e w6⟨rfl,ac⟩;exact⟨rfl,Or.inl⟨ae.out,rfl,ac⟩⟩
  ·have HX:Hid(([82,82,1]:List Nat).drop 1=82:: [82,82,1].drop 2):=rfl;have qb:(({ data:= #[82,82,1] }:ByteArray)[1]).toNat=82:=rfl;by_cases hk:k'<s.size
   ·have HB:=hZ(ly s k' hk);have af:=hZ(nF W w5.drew b k' s(HS.out.grown(ir(il _ _)))hs hk);generalize s[k'].toNat=y at*;by_cases hy:y=82
    ·have qy:((y:Int)==82)=true:=by simp;omega
     have ae:Hid(iX(([82,82,1]).drop(2))((byt s).drop(k'+1))=iX([82,82,1])((byt s).drop k)):=by
      unfold Hid;rw [<-HE.out,HB.out,HX.out,iX,if_pos hy]
     clear hy;go_wp2_with fail
     refine iu(fun _=>True)5(by kernel_rfl)(by kernel_rfl)trivial ?_;intro ab;refine hY(i:=0)(v:= ?vv0_12)rfl(by kernel_rfl)(fun _ _ _ h=>h)(Or.inl⟨by rfl, ?hy0_12⟩)trivial ?rest0_12
     case hy0_12=>(intro u hu;go_simp;try with_reducible rfl)
     simp only [Act.put,List.setIfInBounds_toArray];refine hY(i:=2)(v:= ?vv2_13)rfl(by kernel_rfl)(fun _ _ _ h=>h)(Or.inl⟨by rfl, ?hy2_13⟩)trivial ?rest2_13
     case hy2_13=>(intro u hu;go_simp;try with_reducible rfl)
     simp only [Act.put];refine hY(i:=3)(v:= ?vv3_14)rfl(by kernel_rfl)(fun _ _ _ h=>h)(Or.inl⟨by rfl, ?hy3_14⟩)trivial ?rest3_14
     case hy3_14=>(intro u hu;go_simp;try with_reducible rfl)
     simp only [Act.put];refine ip(i:=1)rfl(by kernel_rfl)(by kernel_rfl)(by rfl) ?_;intro K1 aa;have ad:=hZ aa;clear aa;go_simp;refine af.out.mono ?_;rintro e w6⟨rfl,ac⟩;have ag:=hZ ac;clear ac;refine ad.out _ _ trivial ?_;clear ad;try simp only [Act.put,List.setIfInBounds_toArray]
     refine hY(i:=4)(v:= ?vv4_15)rfl(by kernel_rfl)(fun _ _ _ h=>h)(Or.inl⟨by rfl, ?hy4_15⟩)trivial ?rest4_15
     case hy4_15=>(intro u hu;go_simp;try with_reducible rfl)
     simp only [Act.put];refine iE rfl(by kernel_rfl)(by kernel_rfl)(by rfl) ?_;go_simp;refine(jZ _).mono ?_;rintro e w7⟨⟨v7,rfl⟩,rfl⟩;go_wp2_with fail
     go_roundw
     case rel=>exact⟨2,k'+1,by omega,by first | rfl | go_num,ag,ae⟩
     case measure=>simp [intOf]
    ·have qy:((y:Int)==82)=false:=by simp;omega
     have ae:Hid(iX([82,82,1])((byt s).drop k)=none):=by
      unfold Hid;rw [<-HE.out,HB.out,HX.out,iX,if_neg hy]
     clear hy;go_wp2_with fail
     refine iu(fun _=>True)5(by kernel_rfl)(by kernel_rfl)trivial ?_;intro ab;refine hY(i:=0)(v:= ?vv0_16)rfl(by kernel_rfl)(fun _ _ _ h=>h)(Or.inl⟨by rfl, ?hy0_16⟩)trivial ?rest0_16
     case hy0_16=>(intro u hu;go_simp;try with_reducible rfl)
     simp only [Act.put,List.setIfInBounds_toArray];refine hY(i:=2)(v:= ?vv2_17)rfl(by kernel_rfl)(fun _ _ _ h=>h)(Or.inl⟨by rfl, ?hy2_17⟩)trivial ?rest2_17
     case hy2_17=>(intro u hu;go_simp;try with_reducible rfl)
     simp only [Act.put];refine hY(i:=3)(v:= ?vv3_18)rfl(by kernel_rfl)(fun _ _ _ h=>h)(Or.inl⟨by rfl, ?hy3_18⟩)trivial ?rest3_18
     case hy3_18=>(intro u hu;go_simp;try with_reducible rfl)
     simp only [Act.put];refine ip(i:=1)rfl(by kernel_rfl)(by kernel_rfl)(by rfl) ?_;intro K1 aa;have ad:=hZ aa;clear aa;go_simp;refine af.out.mono ?_;rintro e w6⟨rfl,ac⟩;have ag:=hZ ac;clear ac;refine ad.out _ _ trivial ?_;clear ad;try simp only [Act.put,List.setIfInBounds_toArray]
     refine hY(i:=4)(v:= ?vv4_19)rfl(by kernel_rfl)(fun _ _ _ h=>h)(Or.inl⟨by rfl, ?hy4_19⟩)trivial ?rest4_19
     case hy4_19=>(intro u hu;go_simp;try with_reducible rfl)
     simp only [Act.put];refine iE rfl(by kernel_rfl)(by kernel_rfl)(by rfl) ?_;go_simp;refine(jI _).mono ?_;rintro e w7⟨rfl,rfl⟩;exact⟨rfl,Or.inl⟨ae.out,rfl,ag.out.base⟩⟩
   ·have e0:Hid((byt s).drop k'= []):=List.drop_eq_nil_iff.2(by rw [iP];omega);have af:=hZ(nH W w5.drew b k' s(HS.out.grown(ir(il _ _)))hs hk);have ae:Hid(iX([82,82,1])((byt s).drop k)=none):=by
     unfold Hid;rw [<-HE.out,e0.out,HX.out,iX]
    go_wp2_with fail
    refine iu(fun _=>True)5(by kernel_rfl)(by kernel_rfl)trivial ?_;intro ab;refine hY(i:=0)(v:= ?vv0_20)rfl(by kernel_rfl)(fun _ _ _ h=>h)(Or.inl⟨by rfl, ?hy0_20⟩)trivial ?rest0_20
    case hy0_20=>(intro u hu;go_simp;try with_reducible rfl)
    simp only [Act.put,List.setIfInBounds_toArray];refine hY(i:=2)(v:= ?vv2_21)rfl(by kernel_rfl)(fun _ _ _ h=>h)(Or.inl⟨by rfl, ?hy2_21⟩)trivial ?rest2_21
    case hy2_21=>(intro u hu;go_simp;try with_reducible rfl)
    simp only [Act.put];refine hY(i:=3)(v:= ?vv3_22)rfl(by kernel_rfl)(fun _ _ _ h=>h)(Or.inl⟨by rfl, ?hy3_22⟩)trivial ?rest3_22
    case hy3_22=>(intro u hu;go_simp;try with_reducible rfl)
    simp only [Act.put];refine ip(i:=1)rfl(by kernel_rfl)(by kernel_rfl)(by rfl) ?_;intro K1 aa;have ad:=hZ aa;clear aa;go_simp;refine af.out.mono ?_;rintro e w6⟨rfl,ac⟩;exact⟨rfl,Or.inl⟨ae.out,rfl,ac⟩⟩
  ·have HX:Hid(([82,82,1]:List Nat).drop 2=1:: [82,82,1].drop 3):=rfl;have qb:(({ data:= #[82,82,1] }:ByteArray)[2]).toNat=1:=rfl;by_cases hk:k'<s.size
   ·have HB:=hZ(ly s k' hk);have af:=hZ(nF W w5.drew b k' s(HS.out.grown(ir(il _ _)))hs hk);generalize s[k'].toNat=y at*;by_cases hy:y=1
    ·have qy:((y:Int)==1)=true:=by simp;omega
     have ae:Hid(iX(([82,82,1]).drop(3))((byt s).drop(k'+1))=iX([82,82,1])((byt s).drop k)):=by
      unfold Hid;rw [<-HE.out,HB.out,HX.out,iX,if_pos hy]
     clear hy;go_wp2_with fail
     refine iu(fun _=>True)5(by kernel_rfl)(by kernel_rfl)trivial ?_;intro ab;refine hY(i:=0)(v:= ?vv0_23)rfl(by kernel_rfl)(fun _ _ _ h=>h)(Or.inl⟨by rfl, ?hy0_23⟩)trivial ?rest0_23
     case hy0_23=>(intro u hu;go_simp;try with_reducible rfl)
     simp only [Act.put,List.setIfInBounds_toArray];refine hY(i:=2)(v:= ?vv2_24)rfl(by kernel_rfl)(fun _ _ _ h=>h)(Or.inl⟨by rfl, ?hy2_24⟩)trivial ?rest2_24
     case hy2_24=>(intro u hu;go_simp;try with_reducible rfl)
     simp only [Act.put];refine hY(i:=3)(v:= ?vv3_25)rfl(by kernel_rfl)(fun _ _ _ h=>h)(Or.inl⟨by rfl, ?hy3_25⟩)trivial ?rest3_25
     case hy3_25=>(intro u hu;go_simp;try with_reducible rfl)
     simp only [Act.put];refine ip(i:=1)rfl(by kernel_rfl)(by kernel_rfl)(by rfl) ?_;intro K1 aa;have ad:=hZ aa;clear aa;go_simp;refine af.out.mono ?_;rintro e w6⟨rfl,ac⟩;have ag:=hZ ac;clear ac;refine ad.out _ _ trivial ?_;clear ad;try simp only [Act.put,List.setIfInBounds_toArray]
     refine hY(i:=4)(v:= ?vv4_26)rfl(by kernel_rfl)(fun _ _ _ h=>h)(Or.inl⟨by rfl, ?hy4_26⟩)trivial ?rest4_26
     case hy4_26=>(intro u hu;go_simp;try with_reducible rfl)
     simp only [Act.put];refine iE rfl(by kernel_rfl)(by kernel_rfl)(by rfl) ?_;go_simp;refine(jZ _).mono ?_;rintro e w7⟨⟨v7,rfl⟩,rfl⟩;go_wp2_with fail
     go_roundw
     case rel=>exact⟨3,k'+1,by omega,by first | rfl | go_num,ag,ae⟩
     case measure=>simp [intOf]
    ·have qy:((y:Int)==1)=false:=by simp;omega
     have ae:Hid(iX([82,82,1])((byt s).drop k)=none):=by
      unfold Hid;rw [<-HE.out,HB.out,HX.out,iX,if_neg hy]
     clear hy;go_wp2_with fail
     refine iu(fun _=>True)5(by kernel_rfl)(by kernel_rfl)trivial ?_;intro ab;refine hY(i:=0)(v:= ?vv0_27)rfl(by kernel_rfl)(fun _ _ _ h=>h)(Or.inl⟨by rfl, ?hy0_27⟩)trivial ?rest0_27
     case hy0_27=>(intro u hu;go_simp;try with_reducible rfl)
     simp only [Act.put,List.setIfInBounds_toArray];refine hY(i:=2)(v:= ?vv2_28)rfl(by kernel_rfl)(fun _ _ _ h=>h)(Or.inl⟨by rfl, ?hy2_28⟩)trivial ?rest2_28
     case hy2_28=>(intro u hu;go_simp;try with_reducible rfl)
     simp only [Act.put];refine hY(i:=3)(v:= ?vv3_29)rfl(by kernel_rfl)(fun _ _ _ h=>h)(Or.inl⟨by rfl, ?hy3_29⟩)trivial ?rest3_29
     case hy3_29=>(intro u hu;go_simp;try with_reducible rfl)
     simp only [Act.put];refine ip(i:=1)rfl(by kernel_rfl)(by kernel_rfl)(by rfl) ?_;intro K1 aa;have ad:=hZ aa;clear aa;go_simp;refine af.out.mono ?_;rintro e w6⟨rfl,ac⟩;have ag:=hZ ac;clear ac;refine ad.out _ _ trivial ?_;clear ad;try simp only [Act.put,List.setIfInBounds_toArray]
     refine hY(i:=4)(v:= ?vv4_30)rfl(by kernel_rfl)(fun _ _ _ h=>h)(Or.inl⟨by rfl, ?hy4_30⟩)trivial ?rest4_30
     case hy4_30=>(intro u hu;go_simp;try with_reducible rfl)
     simp only [Act.put];refine iE rfl(by kernel_rfl)(by kernel_rfl)(by rfl) ?_;go_simp;refine(jI _).mono ?_;rintro e w7⟨rfl,rfl⟩;exact⟨rfl,Or.inl⟨ae.out,rfl,ag.out.base⟩⟩
   ·have e0:Hid((byt s).drop k'= []):=List.drop_eq_nil_iff.2(by rw [iP];omega);have af:=hZ(nH W w5.drew b k' s(HS.out.grown(ir(il _ _)))hs hk);have ae:Hid(iX([82,82,1])((byt s).drop k)=none):=by
     unfold Hid;rw [<-HE.out,e0.out,HX.out,iX]
    go_wp2_with fail
    refine iu(fun _=>True)5(by kernel_rfl)(by kernel_rfl)trivial ?_;intro ab;refine hY(i:=0)(v:= ?vv0_31)rfl(by kernel_rfl)(fun _ _ _ h=>h)(Or.inl⟨by rfl, ?hy0_31⟩)trivial ?rest0_31
    case hy0_31=>(intro u hu;go_simp;try with_reducible rfl)
    simp only [Act.put,List.setIfInBounds_toArray];refine hY(i:=2)(v:= ?vv2_32)rfl(by kernel_rfl)(fun _ _ _ h=>h)(Or.inl⟨by rfl, ?hy2_32⟩)trivial ?rest2_32
    case hy2_32=>(intro u hu;go_simp;try with_reducible rfl)
    simp only [Act.put];refine hY(i:=3)(v:= ?vv3_33)rfl(by kernel_rfl)(fun _ _ _ h=>h)(Or.inl⟨by rfl, ?hy3_33⟩)trivial ?rest3_33
    case hy3_33=>(intro u hu;go_simp;try with_reducible rfl)
    simp only [Act.put];refine ip(i:=1)rfl(by kernel_rfl)(by kernel_rfl)(by rfl) ?_;intro K1 aa;have ad:=hZ aa;clear aa;go_simp;refine af.out.mono ?_;rintro e w6⟨rfl,ac⟩;exact⟨rfl,Or.inl⟨ae.out,rfl,ac⟩⟩
  ·have ae:Hid(iX [82,82,1]((byt s).drop k)=some((),(byt s).drop k')):=by
    unfold Hid;rw [<-HE.out];rfl
   go_wp2_with fail
   go_end0
   exact Or.inr⟨(),_,_,k',ae.out,rfl,trivial,HS.out,rfl⟩
end
section
open Go.RowKit
attribute [local go_sem] Go.World.cell?_alloc_some
theorem CI(s:ByteArray)(k:Nat)(_h:k<=s.size):byt(s.extract 0 k)=(byt s).take k:=by
 unfold byt;rw [ByteArray.data_extract,Array.toList_extract,List.map_take];simp
theorem Eb(W w:World)(b k:Nat)(s:ByteArray)(h:RdS W w b s k)(hs:s.size<=9223372036854775806):
  Calls Tryz.prog 140 #[pt b]w(Rd W b s(fun _ _ _=>True)(iX(leB 4(lF((byt s).take k)))((byt s).drop k))):=by
 have HH:=hZ h;have ak:pt b= .pointer(some⟨b,0,none⟩):=rfl;rw [ak];clear h ak;have c0:=HH.out.c0;have c1:=HH.out.c1;have q0:(0:Int)<=(k:Int):=by omega
 have q1:(k:Int)<=s.size:=by have:=HH.out.le;omega
 have q2:k<=s.size:=HH.out.le;have ai:=hZ(uT(s.extract 0 k)w.drew(by simp;omega));rw [CI s k q2]at ai;have hC:lF((byt s).take k)<4294967296:=Ap _(fun x hx=>vM s x(List.mem_of_mem_take hx));generalize lF((byt s).take k)=C at*;go_enter Tryz.func140,Tryz.ntmps140
 go_wp2_with fail
 go_still_tail 9,(by kernel_rfl)
 have an:Hid(RdS W w.drew b s k):=HH.out.grown(ir(il _ _));clear c0 c1 HH;go_wp2_with(go_at_call 135;refine ai.out.mono ?_;rintro e w2⟨rfl,aj⟩;have al:=hZ(an.out.grown(iH aj));clear aj)
 go_loopw [14](fun i w'=>∃ (j k':Nat),j<=4/\i= .int .i64 j/\Hid(RdS W w' b s k')/\Hid(iX((leB 4 C).drop j)((byt s).drop k')=iX(leB 4 C)((byt s).drop k)))(fun i _=>4 - (intOf i).toNat)
 case atStart=>exact⟨0,k,by omega,rfl,al,hZ rfl⟩
 case round=>
  obtain⟨j,k',hj,rfl,HS,HE⟩:=hrel;obtain⟨w5,ah⟩:∃ w5,w5=wr:=⟨_,rfl⟩;rw [<-ah]at HS ⊢;clear ah;have am:j=0\/j=1\/j=2\/j=3\/j=4:=by omega
  rcases am with rfl | rfl | rfl | rfl | rfl
  ·have HX:Hid((leB 4 C).drop 0=(C % 256)::(leB 4 C).drop 1):=by unfold Hid;simp [leB,Nat.div_div_eq_div_mul]
   have qw:IntKind.i64.wrap 0=0:=by decide
   by_cases hk:k'<s.size
   ·have HB:=hZ(ly s k' hk);have af:=hZ(nF W w5.drew b k' s(HS.out.grown(ir(il _ _)))hs hk);generalize s[k'].toNat=y at*;by_cases hy:y=C % 256
    ·have qy:((y:Int)==IntKind.u8.wrap((C:Int)))=true:=by rw [IntKind.wrap_u8'];simp;omega
     have ae:Hid(iX((leB 4 C).drop(1))((byt s).drop(k'+1))=iX(leB 4 C)((byt s).drop k)):=by
      unfold Hid;rw [<-HE.out,HB.out,HX.out,iX,if_pos hy]
     clear hy;go_wp2_with fail
     refine iu(fun _=>True)8(by kernel_rfl)(by kernel_rfl)trivial ?_;intro ab;refine hY(i:=0)(v:= ?vv0_1)rfl(by kernel_rfl)(fun _ _ _ h=>h)(Or.inl⟨by rfl, ?hy0_1⟩)trivial ?rest0_1
     case hy0_1=>(intro u hu;go_simp;try with_reducible rfl)
     simp only [Act.put,List.setIfInBounds_toArray];refine hY(i:=2)(v:= ?vv2_2)rfl(by kernel_rfl)(fun _ _ _ h=>h)(Or.inl⟨by rfl, ?hy2_2⟩)trivial ?rest2_2
     case hy2_2=>(intro u hu;go_simp;try with_reducible rfl)
     simp only [Act.put];refine hY(i:=3)(v:= ?vv3_3)rfl(by kernel_rfl)(fun _ _ _ h=>h)(Or.inl⟨by rfl, ?hy3_3⟩)trivial ?rest3_3
     case hy3_3=>(intro u hu;go_simp;try with_reducible rfl)
     simp only [Act.put];refine hY(i:=4)(v:= ?vv4_4)rfl(by kernel_rfl)(fun _ _ _ h=>h)(Or.inl⟨by rfl, ?hy4_4⟩)trivial ?rest4_4
     case hy4_4=>(intro u hu;go_simp;try with_reducible rfl)
     simp only [Act.put];refine hY(i:=5)(v:= ?vv5_5)rfl(by kernel_rfl)(fun _ _ _ h=>h)(Or.inl⟨by rfl, ?hy5_5⟩)trivial ?rest5_5
     case hy5_5=>(intro u hu;go_simp;try with_reducible rfl)
     simp only [Act.put];refine hY(i:=6)(v:= ?vv6_6)rfl(by kernel_rfl)(fun _ _ _ h=>h)(Or.inl⟨by rfl, ?hy6_6⟩)trivial ?rest6_6
     case hy6_6=>(intro u hu;go_simp;try with_reducible rfl)
     simp only [Act.put];refine ip(i:=1)rfl(by kernel_rfl)(by kernel_rfl)(by rfl) ?_;intro K1 aa;have ad:=hZ aa;clear aa;go_simp;refine af.out.mono ?_;rintro e w6⟨rfl,ac⟩;have ag:=hZ ac;clear ac;refine ad.out _ _ trivial ?_;clear ad;try simp only [Act.put,List.setIfInBounds_toArray]
     refine hY(i:=7)(v:= ?vv7_7)rfl(by kernel_rfl)(fun _ _ _ h=>h)(Or.inl⟨by rfl, ?hy7_7⟩)trivial ?rest7_7
     case hy7_7=>(intro u hu;go_simp;try with_reducible rfl)
     simp only [Act.put];refine iE rfl(by kernel_rfl)(by kernel_rfl)(by rfl) ?_;go_simp;refine(jZ _).mono ?_;rintro e w7⟨⟨v7,rfl⟩,rfl⟩;go_wp2_with fail
     go_roundw
     case rel=>exact⟨1,k'+1,by omega,by first | rfl | go_num,ag,ae⟩
     case measure=>simp [intOf]
    ·have qy:((y:Int)==IntKind.u8.wrap((C:Int)))=false:=by rw [IntKind.wrap_u8'];simp;omega
     have ae:Hid(iX(leB 4 C)((byt s).drop k)=none):=by
      unfold Hid;rw [<-HE.out,HB.out,HX.out,iX,if_neg hy]
     clear hy;go_wp2_with fail
     refine iu(fun _=>True)8(by kernel_rfl)(by kernel_rfl)trivial ?_;intro ab;refine hY(i:=0)(v:= ?vv0_8)rfl(by kernel_rfl)(fun _ _ _ h=>h)(Or.inl⟨by rfl, ?hy0_8⟩)trivial ?rest0_8
     case hy0_8=>(intro u hu;go_simp;try with_reducible rfl)
     simp only [Act.put,List.setIfInBounds_toArray];refine hY(i:=2)(v:= ?vv2_9)rfl(by kernel_rfl)(fun _ _ _ h=>h)(Or.inl⟨by rfl, ?hy2_9⟩)trivial ?rest2_9
     case hy2_9=>(intro u hu;go_simp;try with_reducible rfl)
     simp only [Act.put];refine hY(i:=3)(v:= ?vv3_10)rfl(by kernel_rfl)(fun _ _ _ h=>h)(Or.inl⟨by rfl, ?hy3_10⟩)trivial ?rest3_10
     case hy3_10=>(intro u hu;go_simp;try with_reducible rfl)
     simp only [Act.put];refine hY(i:=4)(v:= ?vv4_11)rfl(by kernel_rfl)(fun _ _ _ h=>h)(Or.inl⟨by rfl, ?hy4_11⟩)trivial ?rest4_11
     case hy4_11=>(intro u hu;go_simp;try with_reducible rfl)
     simp only [Act.put];refine hY(i:=5)(v:= ?vv5_12)rfl(by kernel_rfl)(fun _ _ _ h=>h)(Or.inl⟨by rfl, ?hy5_12⟩)trivial ?rest5_12
     case hy5_12=>(intro u hu;go_simp;try with_reducible rfl)
     simp only [Act.put];refine hY(i:=6)(v:= ?vv6_13)rfl(by kernel_rfl)(fun _ _ _ h=>h)(Or.inl⟨by rfl, ?hy6_13⟩)trivial ?rest6_13
     case hy6_13=>(intro u hu;go_simp;try with_reducible rfl)
     simp only [Act.put];refine ip(i:=1)rfl(by kernel_rfl)(by kernel_rfl)(by rfl) ?_;intro K1 aa;have ad:=hZ aa;clear aa;go_simp;refine af.out.mono ?_;rintro e w6⟨rfl,ac⟩;have ag:=hZ ac;clear ac;refine ad.out _ _ trivial ?_;clear ad;try simp only [Act.put,List.setIfInBounds_toArray]
     refine hY(i:=7)(v:= ?vv7_14)rfl(by kernel_rfl)(fun _ _ _ h=>h)(Or.inl⟨by rfl, ?hy7_14⟩)trivial ?rest7_14
     case hy7_14=>(intro u hu;go_simp;try with_reducible rfl)
     simp only [Act.put];refine iE rfl(by kernel_rfl)(by kernel_rfl)(by rfl) ?_;go_simp;refine(jI _).mono ?_;rintro e w7⟨rfl,rfl⟩;exact⟨rfl,Or.inl⟨ae.out,rfl,ag.out.base⟩⟩
   ·have e0:Hid((byt s).drop k'= []):=List.drop_eq_nil_iff.2(by rw [iP];omega);have af:=hZ(nH W w5.drew b k' s(HS.out.grown(ir(il _ _)))hs hk);have ae:Hid(iX(leB 4 C)((byt s).drop k)=none):=by
     unfold Hid;rw [<-HE.out,e0.out,HX.out,iX]
    go_wp2_with fail
    refine iu(fun _=>True)8(by kernel_rfl)(by kernel_rfl)trivial ?_;intro ab;refine hY(i:=0)(v:= ?vv0_15)rfl(by kernel_rfl)(fun _ _ _ h=>h)(Or.inl⟨by rfl, ?hy0_15⟩)trivial ?rest0_15
    case hy0_15=>(intro u hu;go_simp;try with_reducible rfl)
    simp only [Act.put,List.setIfInBounds_toArray];refine hY(i:=2)(v:= ?vv2_16)rfl(by kernel_rfl)(fun _ _ _ h=>h)(Or.inl⟨by rfl, ?hy2_16⟩)trivial ?rest2_16
    case hy2_16=>(intro u hu;go_simp;try with_reducible rfl)
    simp only [Act.put];refine hY(i:=3)(v:= ?vv3_17)rfl(by kernel_rfl)(fun _ _ _ h=>h)(Or.inl⟨by rfl, ?hy3_17⟩)trivial ?rest3_17
    case hy3_17=>(intro u hu;go_simp;try with_reducible rfl)
    simp only [Act.put];refine hY(i:=4)(v:= ?vv4_18)rfl(by kernel_rfl)(fun _ _ _ h=>h)(Or.inl⟨by rfl, ?hy4_18⟩)trivial ?rest4_18
    case hy4_18=>(intro u hu;go_simp;try with_reducible rfl)
    simp only [Act.put];refine hY(i:=5)(v:= ?vv5_19)rfl(by kernel_rfl)(fun _ _ _ h=>h)(Or.inl⟨by rfl, ?hy5_19⟩)trivial ?rest5_19
    case hy5_19=>(intro u hu;go_simp;try with_reducible rfl)
    simp only [Act.put];refine hY(i:=6)(v:= ?vv6_20)rfl(by kernel_rfl)(fun _ _ _ h=>h)(Or.inl⟨by rfl, ?hy6_20⟩)trivial ?rest6_20
    case hy6_20=>(intro u hu;go_simp;try with_reducible rfl)
    simp only [Act.put];refine ip(i:=1)rfl(by kernel_rfl)(by kernel_rfl)(by rfl) ?_;intro K1 aa;have ad:=hZ aa;clear aa;go_simp;refine af.out.mono ?_;rintro e w6⟨rfl,ac⟩;exact⟨rfl,Or.inl⟨ae.out,rfl,ac⟩⟩
  ·have HX:Hid((leB 4 C).drop 1=(C / 256 % 256)::(leB 4 C).drop 2):=by unfold Hid;simp [leB,Nat.div_div_eq_div_mul]
   have qw:IntKind.i64.wrap 8=8:=by decide
   by_cases hk:k'<s.size
   ·have HB:=hZ(ly s k' hk);have af:=hZ(nF W w5.drew b k' s(HS.out.grown(ir(il _ _)))hs hk);generalize s[k'].toNat=y at*;by_cases hy:y=C / 256 % 256
    ·have qy:((y:Int)==IntKind.u8.wrap((C:Int)/ 256))=true:=by rw [IntKind.wrap_u8'];simp;omega
     have ae:Hid(iX((leB 4 C).drop(2))((byt s).drop(k'+1))=iX(leB 4 C)((byt s).drop k)):=by
      unfold Hid;rw [<-HE.out,HB.out,HX.out,iX,if_pos hy]
     clear hy;go_wp2_with fail
     refine iu(fun _=>True)8(by kernel_rfl)(by kernel_rfl)trivial ?_;intro ab;refine hY(i:=0)(v:= ?vv0_21)rfl(by kernel_rfl)(fun _ _ _ h=>h)(Or.inl⟨by rfl, ?hy0_21⟩)trivial ?rest0_21
     case hy0_21=>(intro u hu;go_simp;try with_reducible rfl)
     simp only [Act.put,List.setIfInBounds_toArray];refine hY(i:=2)(v:= ?vv2_22)rfl(by kernel_rfl)(fun _ _ _ h=>h)(Or.inl⟨by rfl, ?hy2_22⟩)trivial ?rest2_22
     case hy2_22=>(intro u hu;go_simp;try with_reducible rfl)
     simp only [Act.put];refine hY(i:=3)(v:= ?vv3_23)rfl(by kernel_rfl)(fun _ _ _ h=>h)(Or.inl⟨by rfl, ?hy3_23⟩)trivial ?rest3_23
     case hy3_23=>(intro u hu;go_simp;try with_reducible rfl)
     simp only [Act.put];refine hY(i:=4)(v:= ?vv4_24)rfl(by kernel_rfl)(fun _ _ _ h=>h)(Or.inl⟨by rfl, ?hy4_24⟩)trivial ?rest4_24
     case hy4_24=>(intro u hu;go_simp;try with_reducible rfl)
     simp only [Act.put];refine hY(i:=5)(v:= ?vv5_25)rfl(by kernel_rfl)(fun _ _ _ h=>h)(Or.inl⟨by rfl, ?hy5_25⟩)trivial ?rest5_25
     case hy5_25=>(intro u hu;go_simp;try with_reducible rfl)
     simp only [Act.put];refine hY(i:=6)(v:= ?vv6_26)rfl(by kernel_rfl)(fun _ _ _ h=>h)(Or.inl⟨by rfl, ?hy6_26⟩)trivial ?rest6_26
     case hy6_26=>(intro u hu;go_simp;try with_reducible rfl)
     simp only [Act.put];refine ip(i:=1)rfl(by kernel_rfl)(by kernel_rfl)(by rfl) ?_;intro K1 aa;have ad:=hZ aa;clear aa;go_simp;refine af.out.mono ?_;rintro e w6⟨rfl,ac⟩;have ag:=hZ ac;clear ac;refine ad.out _ _ trivial ?_;clear ad;try simp only [Act.put,List.setIfInBounds_toArray]
     refine hY(i:=7)(v:= ?vv7_27)rfl(by kernel_rfl)(fun _ _ _ h=>h)(Or.inl⟨by rfl, ?hy7_27⟩)trivial ?rest7_27
     case hy7_27=>(intro u hu;go_simp;try with_reducible rfl)
     simp only [Act.put];refine iE rfl(by kernel_rfl)(by kernel_rfl)(by rfl) ?_;go_simp;refine(jZ _).mono ?_;rintro e w7⟨⟨v7,rfl⟩,rfl⟩;go_wp2_with fail
     go_roundw
     case rel=>exact⟨2,k'+1,by omega,by first | rfl | go_num,ag,ae⟩
     case measure=>simp [intOf]
    ·have qy:((y:Int)==IntKind.u8.wrap((C:Int)/ 256))=false:=by rw [IntKind.wrap_u8'];simp;omega
     have ae:Hid(iX(leB 4 C)((byt s).drop k)=none):=by
      unfold Hid;rw [<-HE.out,HB.out,HX.out,iX,if_neg hy]
     clear hy;go_wp2_with fail
     refine iu(fun _=>True)8(by kernel_rfl)(by kernel_rfl)trivial ?_;intro ab;refine hY(i:=0)(v:= ?vv0_28)rfl(by kernel_rfl)(fun _ _ _ h=>h)(Or.inl⟨by rfl, ?hy0_28⟩)trivial ?rest0_28
     case hy0_28=>(intro u hu;go_simp;try with_reducible rfl)
     simp only [Act.put,List.setIfInBounds_toArray];refine hY(i:=2)(v:= ?vv2_29)rfl(by kernel_rfl)(fun _ _ _ h=>h)(Or.inl⟨by rfl, ?hy2_29⟩)trivial ?rest2_29
     case hy2_29=>(intro u hu;go_simp;try with_reducible rfl)
     simp only [Act.put];refine hY(i:=3)(v:= ?vv3_30)rfl(by kernel_rfl)(fun _ _ _ h=>h)(Or.inl⟨by rfl, ?hy3_30⟩)trivial ?rest3_30
     case hy3_30=>(intro u hu;go_simp;try with_reducible rfl)
     simp only [Act.put];refine hY(i:=4)(v:= ?vv4_31)rfl(by kernel_rfl)(fun _ _ _ h=>h)(Or.inl⟨by rfl, ?hy4_31⟩)trivial ?rest4_31
     case hy4_31=>(intro u hu;go_simp;try with_reducible rfl)
     simp only [Act.put];refine hY(i:=5)(v:= ?vv5_32)rfl(by kernel_rfl)(fun _ _ _ h=>h)(Or.inl⟨by rfl, ?hy5_32⟩)trivial ?rest5_32
     case hy5_32=>(intro u hu;go_simp;try with_reducible rfl)
     simp only [Act.put];refine hY(i:=6)(v:= ?vv6_33)rfl(by kernel_rfl)(fun _ _ _ h=>h)(Or.inl⟨by rfl, ?hy6_33⟩)trivial ?rest6_33
     case hy6_33=>(intro u hu;go_simp;try with_reducible rfl)
     simp only [Act.put];refine ip(i:=1)rfl(by kernel_rfl)(by kernel_rfl)(by rfl) ?_;intro K1 aa;have ad:=hZ aa;clear aa;go_simp;refine af.out.mono ?_;rintro e w6⟨rfl,ac⟩;have ag:=hZ ac;clear ac;refine ad.out _ _ trivial ?_;clear ad;try simp only [Act.put,List.setIfInBounds_toArray]
     refine hY(i:=7)(v:= ?vv7_34)rfl(by kernel_rfl)(fun _ _ _ h=>h)(Or.inl⟨by rfl, ?hy7_34⟩)trivial ?rest7_34
     case hy7_34=>(intro u hu;go_simp;try with_reducible rfl)
     simp only [Act.put];refine iE rfl(by kernel_rfl)(by kernel_rfl)(by rfl) ?_;go_simp;refine(jI _).mono ?_;rintro e w7⟨rfl,rfl⟩;exact⟨rfl,Or.inl⟨ae.out,rfl,ag.out.base⟩⟩
   ·have e0:Hid((byt s).drop k'= []):=List.drop_eq_nil_iff.2(by rw [iP];omega);have af:=hZ(nH W w5.drew b k' s(HS.out.grown(ir(il _ _)))hs hk);have ae:Hid(iX(leB 4 C)((byt s).drop k)=none):=by
     unfold Hid;rw [<-HE.out,e0.out,HX.out,iX]
    go_wp2_with fail
    refine iu(fun _=>True)8(by kernel_rfl)(by kernel_rfl)trivial ?_;intro ab;refine hY(i:=0)(v:= ?vv0_35)rfl(by kernel_rfl)(fun _ _ _ h=>h)(Or.inl⟨by rfl, ?hy0_35⟩)trivial ?rest0_35
    case hy0_35=>(intro u hu;go_simp;try with_reducible rfl)
    simp only [Act.put,List.setIfInBounds_toArray];refine hY(i:=2)(v:= ?vv2_36)rfl(by kernel_rfl)(fun _ _ _ h=>h)(Or.inl⟨by rfl, ?hy2_36⟩)trivial ?rest2_36
    case hy2_36=>(intro u hu;go_simp;try with_reducible rfl)
    simp only [Act.put];refine hY(i:=3)(v:= ?vv3_37)rfl(by kernel_rfl)(fun _ _ _ h=>h)(Or.inl⟨by rfl, ?hy3_37⟩)trivial ?rest3_37
    case hy3_37=>(intro u hu;go_simp;try with_reducible rfl)
    simp only [Act.put];refine hY(i:=4)(v:= ?vv4_38)rfl(by kernel_rfl)(fun _ _ _ h=>h)(Or.inl⟨by rfl, ?hy4_38⟩)trivial ?rest4_38
    case hy4_38=>(intro u hu;go_simp;try with_reducible rfl)
    simp only [Act.put];refine hY(i:=5)(v:= ?vv5_39)rfl(by kernel_rfl)(fun _ _ _ h=>h)(Or.inl⟨by rfl, ?hy5_39⟩)trivial ?rest5_39
    case hy5_39=>(intro u hu;go_simp;try with_reducible rfl)
    simp only [Act.put];refine hY(i:=6)(v:= ?vv6_40)rfl(by kernel_rfl)(fun _ _ _ h=>h)(Or.inl⟨by rfl, ?hy6_40⟩)trivial ?rest6_40
    case hy6_40=>(intro u hu;go_simp;try with_reducible rfl)
    simp only [Act.put];refine ip(i:=1)rfl(by kernel_rfl)(by kernel_rfl)(by rfl) ?_;intro K1 aa;have ad:=hZ aa;clear aa;go_simp;refine af.out.mono ?_;rintro e w6⟨rfl,ac⟩;exact⟨rfl,Or.inl⟨ae.out,rfl,ac⟩⟩
  ·have HX:Hid((leB 4 C).drop 2=(C / 65536 % 256)::(leB 4 C).drop 3):=by unfold Hid;simp [leB,Nat.div_div_eq_div_mul]
   have qw:IntKind.i64.wrap 16=16:=by decide
   by_cases hk:k'<s.size
   ·have HB:=hZ(ly s k' hk);have af:=hZ(nF W w5.drew b k' s(HS.out.grown(ir(il _ _)))hs hk);generalize s[k'].toNat=y at*;by_cases hy:y=C / 65536 % 256
    ·have qy:((y:Int)==IntKind.u8.wrap((C:Int)/ 65536))=true:=by rw [IntKind.wrap_u8'];simp;omega
     have ae:Hid(iX((leB 4 C).drop(3))((byt s).drop(k'+1))=iX(leB 4 C)((byt s).drop k)):=by
      unfold Hid;rw [<-HE.out,HB.out,HX.out,iX,if_pos hy]
     clear hy;go_wp2_with fail
     refine iu(fun _=>True)8(by kernel_rfl)(by kernel_rfl)trivial ?_;intro ab;refine hY(i:=0)(v:= ?vv0_41)rfl(by kernel_rfl)(fun _ _ _ h=>h)(Or.inl⟨by rfl, ?hy0_41⟩)trivial ?rest0_41
     case hy0_41=>(intro u hu;go_simp;try with_reducible rfl)
     simp only [Act.put,List.setIfInBounds_toArray];refine hY(i:=2)(v:= ?vv2_42)rfl(by kernel_rfl)(fun _ _ _ h=>h)(Or.inl⟨by rfl, ?hy2_42⟩)trivial ?rest2_42
     case hy2_42=>(intro u hu;go_simp;try with_reducible rfl)
     simp only [Act.put];refine hY(i:=3)(v:= ?vv3_43)rfl(by kernel_rfl)(fun _ _ _ h=>h)(Or.inl⟨by rfl, ?hy3_43⟩)trivial ?rest3_43
     case hy3_43=>(intro u hu;go_simp;try with_reducible rfl)
     simp only [Act.put];refine hY(i:=4)(v:= ?vv4_44)rfl(by kernel_rfl)(fun _ _ _ h=>h)(Or.inl⟨by rfl, ?hy4_44⟩)trivial ?rest4_44
     case hy4_44=>(intro u hu;go_simp;try with_reducible rfl)
     simp only [Act.put];refine hY(i:=5)(v:= ?vv5_45)rfl(by kernel_rfl)(fun _ _ _ h=>h)(Or.inl⟨by rfl, ?hy5_45⟩)trivial ?rest5_45
     case hy5_45=>(intro u hu;go_simp;try with_reducible rfl)
     simp only [Act.put];refine hY(i:=6)(v:= ?vv6_46)rfl(by kernel_rfl)(fun _ _ _ h=>h)(Or.inl⟨by rfl, ?hy6_46⟩)trivial ?rest6_46
     case hy6_46=>(intro u hu;go_simp;try with_reducible rfl)
     simp only [Act.put];refine ip(i:=1)rfl(by kernel_rfl)(by kernel_rfl)(by rfl) ?_;intro K1 aa;have ad:=hZ aa;clear aa;go_simp;refine af.out.mono ?_;rintro e w6⟨rfl,ac⟩;have ag:=hZ ac;clear ac;refine ad.out _ _ trivial ?_;clear ad;try simp only [Act.put,List.setIfInBounds_toArray]
     refine hY(i:=7)(v:= ?vv7_47)rfl(by kernel_rfl)(fun _ _ _ h=>h)(Or.inl⟨by rfl, ?hy7_47⟩)trivial ?rest7_47
     case hy7_47=>(intro u hu;go_simp;try with_reducible rfl)
     simp only [Act.put];refine iE rfl(by kernel_rfl)(by kernel_rfl)(by rfl) ?_;go_simp;refine(jZ _).mono ?_;rintro e w7⟨⟨v7,rfl⟩,rfl⟩;go_wp2_with fail
     go_roundw
     case rel=>exact⟨3,k'+1,by omega,by first | rfl | go_num,ag,ae⟩
     case measure=>simp [intOf]
    ·have qy:((y:Int)==IntKind.u8.wrap((C:Int)/ 65536))=false:=by rw [IntKind.wrap_u8'];simp;omega
     have ae:Hid(iX(leB 4 C)((byt s).drop k)=none):=by
      unfold Hid;rw [<-HE.out,HB.out,HX.out,iX,if_neg hy]
     clear hy;go_wp2_with fail
     refine iu(fun _=>True)8(by kernel_rfl)(by kernel_rfl)trivial ?_;intro ab;refine hY(i:=0)(v:= ?vv0_48)rfl(by kernel_rfl)(fun _ _ _ h=>h)(Or.inl⟨by rfl, ?hy0_48⟩)trivial ?rest0_48
     case hy0_48=>(intro u hu;go_simp;try with_reducible rfl)
     simp only [Act.put,List.setIfInBounds_toArray];refine hY(i:=2)(v:= ?vv2_49)rfl(by kernel_rfl)(fun _ _ _ h=>h)(Or.inl⟨by rfl, ?hy2_49⟩)trivial ?rest2_49
     case hy2_49=>(intro u hu;go_simp;try with_reducible rfl)
     simp only [Act.put];refine hY(i:=3)(v:= ?vv3_50)rfl(by kernel_rfl)(fun _ _ _ h=>h)(Or.inl⟨by rfl, ?hy3_50⟩)trivial ?rest3_50
     case hy3_50=>(intro u hu;go_simp;try with_reducible rfl)
     simp only [Act.put];refine hY(i:=4)(v:= ?vv4_51)rfl(by kernel_rfl)(fun _ _ _ h=>h)(Or.inl⟨by rfl, ?hy4_51⟩)trivial ?rest4_51
     case hy4_51=>(intro u hu;go_simp;try with_reducible rfl)
     simp only [Act.put];refine hY(i:=5)(v:= ?vv5_52)rfl(by kernel_rfl)(fun _ _ _ h=>h)(Or.inl⟨by rfl, ?hy5_52⟩)trivial ?rest5_52
     case hy5_52=>(intro u hu;go_simp;try with_reducible rfl)
     simp only [Act.put];refine hY(i:=6)(v:= ?vv6_53)rfl(by kernel_rfl)(fun _ _ _ h=>h)(Or.inl⟨by rfl, ?hy6_53⟩)trivial ?rest6_53
     case hy6_53=>(intro u hu;go_simp;try with_reducible rfl)
     simp only [Act.put];refine ip(i:=1)rfl(by kernel_rfl)(by kernel_rfl)(by rfl) ?_;intro K1 aa;have ad:=hZ aa;clear aa;go_simp;refine af.out.mono ?_;rintro e w6⟨rfl,ac⟩;have ag:=hZ ac;clear ac;refine ad.out _ _ trivial ?_;clear ad;try simp only [Act.put,List.setIfInBounds_toArray]
     refine hY(i:=7)(v:= ?vv7_54)rfl(by kernel_rfl)(fun _ _ _ h=>h)(Or.inl⟨by rfl, ?hy7_54⟩)trivial ?rest7_54
     case hy7_54=>(intro u hu;go_simp;try with_reducible rfl)
     simp only [Act.put];refine iE rfl(by kernel_rfl)(by kernel_rfl)(by rfl) ?_;go_simp;refine(jI _).mono ?_;rintro e w7⟨rfl,rfl⟩;exact⟨rfl,Or.inl⟨ae.out,rfl,ag.out.base⟩⟩
   ·have e0:Hid((byt s).drop k'= []):=List.drop_eq_nil_iff.2(by rw [iP];omega);have af:=hZ(nH W w5.drew b k' s(HS.out.grown(ir(il _ _)))hs hk);have ae:Hid(iX(leB 4 C)((byt s).drop k)=none):=by
     unfold Hid;rw [<-HE.out,e0.out,HX.out,iX]
    go_wp2_with fail
    refine iu(fun _=>True)8(by kernel_rfl)(by kernel_rfl)trivial ?_;intro ab;refine hY(i:=0)(v:= ?vv0_55)rfl(by kernel_rfl)(fun _ _ _ h=>h)(Or.inl⟨by rfl, ?hy0_55⟩)trivial ?rest0_55
    case hy0_55=>(intro u hu;go_simp;try with_reducible rfl)
    simp only [Act.put,List.setIfInBounds_toArray];refine hY(i:=2)(v:= ?vv2_56)rfl(by kernel_rfl)(fun _ _ _ h=>h)(Or.inl⟨by rfl, ?hy2_56⟩)trivial ?rest2_56
    case hy2_56=>(intro u hu;go_simp;try with_reducible rfl)
    simp only [Act.put];refine hY(i:=3)(v:= ?vv3_57)rfl(by kernel_rfl)(fun _ _ _ h=>h)(Or.inl⟨by rfl, ?hy3_57⟩)trivial ?rest3_57
    case hy3_57=>(intro u hu;go_simp;try with_reducible rfl)
    simp only [Act.put];refine hY(i:=4)(v:= ?vv4_58)rfl(by kernel_rfl)(fun _ _ _ h=>h)(Or.inl⟨by rfl, ?hy4_58⟩)trivial ?rest4_58
    case hy4_58=>(intro u hu;go_simp;try with_reducible rfl)
    simp only [Act.put];refine hY(i:=5)(v:= ?vv5_59)rfl(by kernel_rfl)(fun _ _ _ h=>h)(Or.inl⟨by rfl, ?hy5_59⟩)trivial ?rest5_59
    case hy5_59=>(intro u hu;go_simp;try with_reducible rfl)
    simp only [Act.put];refine hY(i:=6)(v:= ?vv6_60)rfl(by kernel_rfl)(fun _ _ _ h=>h)(Or.inl⟨by rfl, ?hy6_60⟩)trivial ?rest6_60
    case hy6_60=>(intro u hu;go_simp;try with_reducible rfl)
    simp only [Act.put];refine ip(i:=1)rfl(by kernel_rfl)(by kernel_rfl)(by rfl) ?_;intro K1 aa;have ad:=hZ aa;clear aa;go_simp;refine af.out.mono ?_;rintro e w6⟨rfl,ac⟩;exact⟨rfl,Or.inl⟨ae.out,rfl,ac⟩⟩
  ·have HX:Hid((leB 4 C).drop 3=(C / 16777216 % 256)::(leB 4 C).drop 4):=by unfold Hid;simp [leB,Nat.div_div_eq_div_mul]
   have qw:IntKind.i64.wrap 24=24:=by decide
   by_cases hk:k'<s.size
   ·have HB:=hZ(ly s k' hk);have af:=hZ(nF W w5.drew b k' s(HS.out.grown(ir(il _ _)))hs hk);generalize s[k'].toNat=y at*;by_cases hy:y=C / 16777216 % 256
    ·have qy:((y:Int)==IntKind.u8.wrap((C:Int)/ 16777216))=true:=by rw [IntKind.wrap_u8'];simp;omega
     have ae:Hid(iX((leB 4 C).drop(4))((byt s).drop(k'+1))=iX(leB 4 C)((byt s).drop k)):=by
      unfold Hid;rw [<-HE.out,HB.out,HX.out,iX,if_pos hy]
     clear hy;go_wp2_with fail
     refine iu(fun _=>True)8(by kernel_rfl)(by kernel_rfl)trivial ?_;intro ab;refine hY(i:=0)(v:= ?vv0_61)rfl(by kernel_rfl)(fun _ _ _ h=>h)(Or.inl⟨by rfl, ?hy0_61⟩)trivial ?rest0_61
     case hy0_61=>(intro u hu;go_simp;try with_reducible rfl)
     simp only [Act.put,List.setIfInBounds_toArray];refine hY(i:=2)(v:= ?vv2_62)rfl(by kernel_rfl)(fun _ _ _ h=>h)(Or.inl⟨by rfl, ?hy2_62⟩)trivial ?rest2_62
     case hy2_62=>(intro u hu;go_simp;try with_reducible rfl)
     simp only [Act.put];refine hY(i:=3)(v:= ?vv3_63)rfl(by kernel_rfl)(fun _ _ _ h=>h)(Or.inl⟨by rfl, ?hy3_63⟩)trivial ?rest3_63
     case hy3_63=>(intro u hu;go_simp;try with_reducible rfl)
     simp only [Act.put];refine hY(i:=4)(v:= ?vv4_64)rfl(by kernel_rfl)(fun _ _ _ h=>h)(Or.inl⟨by rfl, ?hy4_64⟩)trivial ?rest4_64
     case hy4_64=>(intro u hu;go_simp;try with_reducible rfl)
     simp only [Act.put];refine hY(i:=5)(v:= ?vv5_65)rfl(by kernel_rfl)(fun _ _ _ h=>h)(Or.inl⟨by rfl, ?hy5_65⟩)trivial ?rest5_65
     case hy5_65=>(intro u hu;go_simp;try with_reducible rfl)
     simp only [Act.put];refine hY(i:=6)(v:= ?vv6_66)rfl(by kernel_rfl)(fun _ _ _ h=>h)(Or.inl⟨by rfl, ?hy6_66⟩)trivial ?rest6_66
     case hy6_66=>(intro u hu;go_simp;try with_reducible rfl)
     simp only [Act.put];refine ip(i:=1)rfl(by kernel_rfl)(by kernel_rfl)(by rfl) ?_;intro K1 aa;have ad:=hZ aa;clear aa;go_simp;refine af.out.mono ?_;rintro e w6⟨rfl,ac⟩;have ag:=hZ ac;clear ac;refine ad.out _ _ trivial ?_;clear ad;try simp only [Act.put,List.setIfInBounds_toArray]
     refine hY(i:=7)(v:= ?vv7_67)rfl(by kernel_rfl)(fun _ _ _ h=>h)(Or.inl⟨by rfl, ?hy7_67⟩)trivial ?rest7_67
     case hy7_67=>(intro u hu;go_simp;try with_reducible rfl)
     simp only [Act.put];refine iE rfl(by kernel_rfl)(by kernel_rfl)(by rfl) ?_;go_simp;refine(jZ _).mono ?_;rintro e w7⟨⟨v7,rfl⟩,rfl⟩;go_wp2_with fail
     go_roundw
     case rel=>exact⟨4,k'+1,by omega,by first | rfl | go_num,ag,ae⟩
     case measure=>simp [intOf]
    ·have qy:((y:Int)==IntKind.u8.wrap((C:Int)/ 16777216))=false:=by rw [IntKind.wrap_u8'];simp;omega
     have ae:Hid(iX(leB 4 C)((byt s).drop k)=none):=by
      unfold Hid;rw [<-HE.out,HB.out,HX.out,iX,if_neg hy]
     clear hy;go_wp2_with fail
     refine iu(fun _=>True)8(by kernel_rfl)(by kernel_rfl)trivial ?_;intro ab;refine hY(i:=0)(v:= ?vv0_68)rfl(by kernel_rfl)(fun _ _ _ h=>h)(Or.inl⟨by rfl, ?hy0_68⟩)trivial ?rest0_68
     case hy0_68=>(intro u hu;go_simp;try with_reducible rfl)
     simp only [Act.put,List.setIfInBounds_toArray];refine hY(i:=2)(v:= ?vv2_69)rfl(by kernel_rfl)(fun _ _ _ h=>h)(Or.inl⟨by rfl, ?hy2_69⟩)trivial ?rest2_69
     case hy2_69=>(intro u hu;go_simp;try with_reducible rfl)
     simp only [Act.put];refine hY(i:=3)(v:= ?vv3_70)rfl(by kernel_rfl)(fun _ _ _ h=>h)(Or.inl⟨by rfl, ?hy3_70⟩)trivial ?rest3_70
     case hy3_70=>(intro u hu;go_simp;try with_reducible rfl)
     simp only [Act.put];refine hY(i:=4)(v:= ?vv4_71)rfl(by kernel_rfl)(fun _ _ _ h=>h)(Or.inl⟨by rfl, ?hy4_71⟩)trivial ?rest4_71
     case hy4_71=>(intro u hu;go_simp;try with_reducible rfl)
     simp only [Act.put];refine hY(i:=5)(v:= ?vv5_72)rfl(by kernel_rfl)(fun _ _ _ h=>h)(Or.inl⟨by rfl, ?hy5_72⟩)trivial ?rest5_72
     case hy5_72=>(intro u hu;go_simp;try with_reducible rfl)
     simp only [Act.put];refine hY(i:=6)(v:= ?vv6_73)rfl(by kernel_rfl)(fun _ _ _ h=>h)(Or.inl⟨by rfl, ?hy6_73⟩)trivial ?rest6_73
     case hy6_73=>(intro u hu;go_simp;try with_reducible rfl)
     simp only [Act.put];refine ip(i:=1)rfl(by kernel_rfl)(by kernel_rfl)(by rfl) ?_;intro K1 aa;have ad:=hZ aa;clear aa;go_simp;refine af.out.mono ?_;rintro e w6⟨rfl,ac⟩;have ag:=hZ ac;clear ac;refine ad.out _ _ trivial ?_;clear ad;try simp only [Act.put,List.setIfInBounds_toArray]
     refine hY(i:=7)(v:= ?vv7_74)rfl(by kernel_rfl)(fun _ _ _ h=>h)(Or.inl⟨by rfl, ?hy7_74⟩)trivial ?rest7_74
     case hy7_74=>(intro u hu;go_simp;try with_reducible rfl)
     simp only [Act.put];refine iE rfl(by kernel_rfl)(by kernel_rfl)(by rfl) ?_;go_simp;refine(jI _).mono ?_;rintro e w7⟨rfl,rfl⟩;exact⟨rfl,Or.inl⟨ae.out,rfl,ag.out.base⟩⟩
   ·have e0:Hid((byt s).drop k'= []):=List.drop_eq_nil_iff.2(by rw [iP];omega);have af:=hZ(nH W w5.drew b k' s(HS.out.grown(ir(il _ _)))hs hk);have ae:Hid(iX(leB 4 C)((byt s).drop k)=none):=by
     unfold Hid;rw [<-HE.out,e0.out,HX.out,iX]
    go_wp2_with fail
    refine iu(fun _=>True)8(by kernel_rfl)(by kernel_rfl)trivial ?_;intro ab;refine hY(i:=0)(v:= ?vv0_75)rfl(by kernel_rfl)(fun _ _ _ h=>h)(Or.inl⟨by rfl, ?hy0_75⟩)trivial ?rest0_75
    case hy0_75=>(intro u hu;go_simp;try with_reducible rfl)
    simp only [Act.put,List.setIfInBounds_toArray];refine hY(i:=2)(v:= ?vv2_76)rfl(by kernel_rfl)(fun _ _ _ h=>h)(Or.inl⟨by rfl, ?hy2_76⟩)trivial ?rest2_76
    case hy2_76=>(intro u hu;go_simp;try with_reducible rfl)
    simp only [Act.put];refine hY(i:=3)(v:= ?vv3_77)rfl(by kernel_rfl)(fun _ _ _ h=>h)(Or.inl⟨by rfl, ?hy3_77⟩)trivial ?rest3_77
    case hy3_77=>(intro u hu;go_simp;try with_reducible rfl)
    simp only [Act.put];refine hY(i:=4)(v:= ?vv4_78)rfl(by kernel_rfl)(fun _ _ _ h=>h)(Or.inl⟨by rfl, ?hy4_78⟩)trivial ?rest4_78
    case hy4_78=>(intro u hu;go_simp;try with_reducible rfl)
    simp only [Act.put];refine hY(i:=5)(v:= ?vv5_79)rfl(by kernel_rfl)(fun _ _ _ h=>h)(Or.inl⟨by rfl, ?hy5_79⟩)trivial ?rest5_79
    case hy5_79=>(intro u hu;go_simp;try with_reducible rfl)
    simp only [Act.put];refine hY(i:=6)(v:= ?vv6_80)rfl(by kernel_rfl)(fun _ _ _ h=>h)(Or.inl⟨by rfl, ?hy6_80⟩)trivial ?rest6_80
    case hy6_80=>(intro u hu;go_simp;try with_reducible rfl)
    simp only [Act.put];refine ip(i:=1)rfl(by kernel_rfl)(by kernel_rfl)(by rfl) ?_;intro K1 aa;have ad:=hZ aa;clear aa;go_simp;refine af.out.mono ?_;rintro e w6⟨rfl,ac⟩;exact⟨rfl,Or.inl⟨ae.out,rfl,ac⟩⟩
  ·have ae:Hid(iX(leB 4 C)((byt s).drop k)=some((),(byt s).drop k')):=by
    unfold Hid;rw [<-HE.out];rfl
   go_wp2_with fail
   go_end0
   exact Or.inr⟨(),_,_,k',ae.out,rfl,trivial,HS.out,rfl⟩
end
section
open Go.RowKit
attribute [local go_sem] Go.World.cell?_alloc_some
def inB(x lo hi:Int):Bool:=decide(lo<=x)&& decide(x<=hi)
theorem qZ(x lo hi:Int)(w:World):Calls Tryz.prog 132 #[.int .i64 x, .int .i64 lo, .int .i64 hi]w fun e w'=>e= .returned(.bool(inB x lo hi))/\w'=w:=by
 by_cases h1:lo<=x
 ·by_cases h2:x<=hi
  ·have HB:Hid(inB x lo hi=true):=by unfold Hid inB;simp [h1,h2]
   go_enter Tryz.func132,Tryz.ntmps132
   go_wp2_with fail
   go_ret;exact⟨by first | rfl | (rw [HB.out];rfl),rfl⟩
  ·have HB:Hid(inB x lo hi=false):=by unfold Hid inB;simp [h2]
   have q2:decide(x<=hi)=false:=by simp;omega
   go_enter Tryz.func132,Tryz.ntmps132
   go_wp2_with fail
   go_ret;exact⟨by first | rfl | (rw [HB.out];rfl),rfl⟩
 ·have HB:Hid(inB x lo hi=false):=by unfold Hid inB;simp [h1]
  have q2:decide(lo<=x)=false:=by simp;omega
  go_enter Tryz.func132,Tryz.ntmps132
  go_wp2_with fail
  go_ret;exact⟨by first | rfl | (rw [HB.out];rfl),rfl⟩
theorem qM(a b c:Int):kL(a,b,c)=(inB a 1 5 && inB b 0 3 && inB c 0 500):=rfl
theorem tN(v:Int × Int × Int)(w:World):Calls Tryz.prog 91 #[D6 v]w fun e w'=>e= .returned(.bool(kL v))/\w.grownBy w' none:=by
 obtain⟨a,b,c⟩:=v;unfold D6;cases h1:inB a 1 5 with
 | false=>
  have HV:Hid(kL(a,b,c)=false):=by unfold Hid;rw [qM];simp only [h1];rfl
  go_enter Tryz.func91,Tryz.ntmps91
  go_wp2_with(go_at_call 132;refine(qZ _ _ _ _).mono ?_;rintro e w1⟨rfl,rfl⟩)
  go_ret;exact⟨by rw [HV.out];rfl,ij(il _ _)⟩
 | true=>
  cases h2:inB b 0 3 with
  | false=>
   have HV:Hid(kL(a,b,c)=false):=by unfold Hid;rw [qM];simp only [h1,h2];rfl
   go_enter Tryz.func91,Tryz.ntmps91
   go_wp2_with(go_at_call 132;refine(qZ _ _ _ _).mono ?_;rintro e w1⟨rfl,rfl⟩)
   go_ret;exact⟨by rw [HV.out];rfl,ij(il _ _)⟩
  | true=>
   cases h3:inB c 0 500 with
   | false=>
    have HV:Hid(kL(a,b,c)=false):=by unfold Hid;rw [qM];simp only [h1,h2,h3];rfl
    go_enter Tryz.func91,Tryz.ntmps91
    go_wp2_with(go_at_call 132;refine(qZ _ _ _ _).mono ?_;rintro e w1⟨rfl,rfl⟩)
    go_ret;exact⟨by rw [HV.out];rfl,ij(il _ _)⟩
   | true=>
    have HV:Hid(kL(a,b,c)=true):=by unfold Hid;rw [qM];simp only [h1,h2,h3];rfl
    go_enter Tryz.func91,Tryz.ntmps91
    go_wp2_with(go_at_call 132;refine(qZ _ _ _ _).mono ?_;rintro e w1⟨rfl,rfl⟩)
    go_ret;exact⟨by rw [HV.out];rfl,ij(il _ _)⟩
end
section
open Go.RowKit
attribute [local go_sem] Go.World.cell?_alloc_some
def pP(tv sv:Value)(v:Int × Int × Int):Value:= .agg #[tv,sv, .int .i64 v.1, .int .i64 v.2.1, .int .i64 v.2.2]
theorem s9(a:Art)(tv sv:Value)(w:World)(ao:ShpAt w)(hP:ProgAt w(.agg #[tv])a.prog)(hS:IntsAt w.heap.size w sv a.sch):
  Calls Tryz.prog 63 #[pP tv sv a.ver]w fun e w'=>e= .returned(.int .i64(jF a))/\w.grownBy w' none:=by
 obtain⟨p,l,v⟩:=a;obtain⟨v1,v2,v3⟩:=v;simp only at hP hS ⊢;have HP:=hZ hP;have HS:=hZ hS;obtain⟨ta,tc,e1⟩:=hP.form;simp only [Value.agg.injEq,Array.mk.injEq,List.cons.injEq,and_true]at e1;subst e1;obtain⟨sa,sc,rfl⟩:=hS.form;have ap:=hZ ao;clear hP hS ao;unfold pP;simp only;have ah:w.grownBy(w.alloc(.cells #[.slice ta p.length tc, .slice sa l.length sc, .int .i64 v1, .int .i64 v2, .int .i64 v3]56))none:=ij(il _ _);have aq:Hid((w.alloc(.cells #[.slice ta p.length tc, .slice sa l.length sc, .int .i64 v1, .int .i64 v2, .int .i64 v3]56)).heap[w.heap.size]?=some(.cells #[.slice ta p.length tc, .slice sa l.length sc, .int .i64 v1, .int .i64 v2, .int .i64 v3]56(0,0))):=heap_alloc_new _ _;have ae:=hZ(Ah p _ _(ShpAt.pres ap.out(ie ah))(HP.out.pres(ie ah)));have al:=hZ ah;clear ah;cases hv:iR p with
 | false=>
  have HA:Hid(jF⟨p,l,(v1,v2,v3)⟩=1):=by unfold Hid jF;rw [if_neg(by rw [hv];simp)]
  rw [hv]at ae;clear hv;go_enter Tryz.func63,Tryz.ntmps63
  go_wp2_with(go_at_call 51;refine ae.out.mono ?_;rintro e w2⟨rfl,ab⟩)
  go_ret;exact⟨by rw [HA.out];rfl,ic al.out ab⟩
 | true=>
  rw [hv]at ae;have aj:=hZ hv;clear hv;go_enter Tryz.func63,Tryz.ntmps63
  go_wp2_with fail
  refine ae.out.mono ?_;rintro e w2⟨rfl,ab⟩;have ac:=hZ(ic al.out ab);have ak:w2.heap[w.heap.size]?=some(.cells #[.slice ta p.length tc, .slice sa l.length sc, .int .i64 v1, .int .i64 v2, .int .i64 v3]56(0,0)):=by
   rw [ab.block _(by simp)(by simp)];exact aq.out
  have k1:w2.cell?⟨w.heap.size,1,none⟩=some(.slice sa l.length sc):=by simp [World.cell?,ak]
  have ag:=hZ(Ae l(.slice sa l.length sc)w2((HS.out.pres(ie ac.out)).mono ac.out.size));have am:=hZ ak;clear ab ak;cases hv2:i8 l with
  | false=>
   have HA:Hid(jF⟨p,l,(v1,v2,v3)⟩=2):=by unfold Hid jF;rw [if_pos aj.out,if_neg(by rw [hv2];simp)]
   rw [hv2]at ag;clear hv2;go_wp2_with(go_at_call 76;refine ag.out.mono ?_;rintro e w3⟨rfl,aa⟩)
   go_ret;exact⟨by rw [HA.out];rfl,ic ac.out aa⟩
  | true=>
   rw [hv2]at ag;have ar:=hZ hv2;clear hv2;go_wp2_with fail
   refine ag.out.mono ?_;rintro e w3⟨rfl,aa⟩;have an:=hZ(ic ac.out aa);have af:w3.heap[w.heap.size]?=some(.cells #[.slice ta p.length tc, .slice sa l.length sc, .int .i64 v1, .int .i64 v2, .int .i64 v3]56(0,0)):=by
    rw [aa.block _(Array.getElem?_eq_some_iff.1 am.out).1(by simp)];exact am.out
   have k2:w3.cell?⟨w.heap.size,2,none⟩=some(.int .i64 v1):=by simp [World.cell?,af]
   have k3:w3.cell?⟨w.heap.size,3,none⟩=some(.int .i64 v2):=by simp [World.cell?,af]
   have k4:w3.cell?⟨w.heap.size,4,none⟩=some(.int .i64 v3):=by simp [World.cell?,af]
   have ad:=hZ(tN(v1,v2,v3)w3);clear aa af k1;cases hv3:kL(v1,v2,v3)with
   | false=>
    have HA:Hid(jF⟨p,l,(v1,v2,v3)⟩=2):=by unfold Hid jF;rw [if_pos aj.out,if_neg(by rw [hv3];simp)]
    rw [hv3]at ad;clear hv3;go_wp2_with(go_at_call 91;refine ad.out.mono ?_;rintro e w4⟨rfl,ai⟩)
    go_ret;exact⟨by rw [HA.out];rfl,ic an.out ai⟩
   | true=>
    have HA:Hid(jF⟨p,l,(v1,v2,v3)⟩=0):=by unfold Hid jF;rw [if_pos aj.out,if_pos⟨ar.out,hv3⟩]
    rw [hv3]at ad;clear hv3;go_wp2_with(go_at_call 91;refine ad.out.mono ?_;rintro e w4⟨rfl,ai⟩)
    go_ret;exact⟨by rw [HA.out];rfl,ic an.out ai⟩
end
section
open Go.RowKit
attribute [local go_sem] Go.World.cell?_alloc_some
theorem ThrAt.low {L L' B:Nat} {w:World} {tv:Value} {p:List(List Ins)}(h:ThrAt L B w tv p)(hl:L'<=L):ThrAt L' B w tv p:=by
 obtain⟨rows,h1,h2,h3,h4⟩:=h;refine⟨rows,iN h1 hl,h2,fun j hj=> ?_,h4⟩;obtain⟨rv,e1,e2,e3⟩:=h3 j hj;exact⟨rv,e1,iN e2 hl,e3⟩
def Ch(l:List Nat)(a:Art)(r3:List Nat):Option Art:=if r3=leB 4(lF(l.take(l.length - r3.length)))/\jF a=0 then some a else none
def Dz(l:List Nat)(p:List(List Ins))(s:List Int)(r:List Nat):Option Art:=match m8 r with
 | none=>none
 | some(v,r3)=>Ch l⟨p,s,v⟩r3
def Cm(l:List Nat)(p:List(List Ins))(r:List Nat):Option Art:=match jP r with
 | none=>none
 | some(s,r2)=>Dz l p s r2
def Dt(l:List Nat)(r:List Nat):Option Art:=match kQ r with
 | none=>none
 | some(p,r1)=>Cm l p r1
theorem AQ {l r0:List Nat}(h:iX [82,82,1]l=some((),r0)):km l=Dt l r0:=by
 have e:=(sP _ _ _).1 h;have e':l=82::82::1::r0:=e;have e2:oM l=match kQ r0 with
  | none=>none
  | some(p,r1)=>match jP r1 with
   | none=>none
   | some(s,r2)=>match m8 r2 with
    | none=>none
    | some(v,r3)=>some(⟨p,s,v⟩,r3):=by rw [e'];rfl
 unfold km;rw [e2];unfold Dt Cm Dz Ch;cases kQ r0 with
 | none=>rfl
 | some x=>
  obtain⟨p,r1⟩:=x;simp only;cases jP r1 with
  | none=>rfl
  | some x=>
   obtain⟨s,r2⟩:=x;simp only;cases m8 r2 with
   | none=>rfl
   | some x=>rfl
theorem wW {l:List Nat} {k:Nat}(hk:k<=l.length)(a:Art):Ch l a(l.drop k)=if iX(leB 4(lF(l.take k)))(l.drop k)=some((), [])/\jF a=0 then some a else none:=by
 unfold Ch;have e:l.length - (l.drop k).length=k:=by simp;omega
 rw [e];have e2:(iX(leB 4(lF(l.take k)))(l.drop k)=some((), []))=(l.drop k=leB 4(lF(l.take k))):=by rw [sP,List.append_nil]
 simp only [e2]
theorem ShpAt.past {w w':World} {b:Nat}(h:ShpAt w)(hg:w.grownBy w'(some b))(hb:b≠0):ShpAt w':=fun o j h1 h2=>by
 have:=h o j h1 h2;rw [hg.cell_far _(World.block_lt_of_cell? _ _ this)(by simpa using Ne.symm hb)];exact this
theorem xG {l:List Nat}(h:iX [82,82,1]l=none):km l=none:=by
 cases hd:km l with
 | none=>rfl
 | some a=>
  obtain⟨r,h1,_⟩:=At hd;obtain⟨r0,e⟩:=pT h1;have:iX [82,82,1]l=some((),r0):=(sP _ _ _).2 e;rw [this]at h;cases h
structure ArS(W w:World)(b:Nat)(s:ByteArray)(k c d L:Nat)(tv sv:Value)(p:List(List Ins))(l:List Int)(v:Int × Int × Int)(us:Array Value):Prop where
 ins:InS W w b s k 56 c d #[tv,sv, .int .i64 v.1, .int .i64 v.2.1, .int .i64 v.2.2]us
 thr:ThrAt L w.heap.size w tv p
 own:w.ownsRow L 3 1 sv l.length(iI l)
 lb:b<L
 lc:c<L
 ld:d<L
theorem ArS.call {W w w':World} {b k k' c d L:Nat} {s:ByteArray} {tv sv:Value} {p:List(List Ins)} {l:List Int} {v:Int × Int × Int} {us:Array Value}(h:ArS W w b s k c d L tv sv p l v us)(h':RdS w w' b s k'):ArS W w' b s k' c d L tv sv p l v us:=
 ⟨h.ins.call h',(h.thr.step h'.base(fun q e=>by simp only [Option.some.injEq]at e;have:=h.lb;omega)).mono h'.base.size,vw h.own h'.base h.lb,h.lb,h.lc,h.ld⟩
theorem jb {w:World} {base:Nat} {e:TypeId} {size:Nat} {v:Value} {n:Nat} {xs:List Value} {g o:Nat} {u:Value}(h:w.ownsRow base e size v n xs)(hg:g<base):(w.setCell⟨g,o,none⟩u).ownsRow base e size v n xs:=
 iA h(iS(w:=w)(b:=g)(o:=o)(v:=u))(fun k e=>by simp only [Option.some.injEq]at e;omega)
theorem ji {L:Nat} {w:World} {tv:Value} {p:List(List Ins)} {g o:Nat} {u:Value}(h:ThrAt L w.heap.size w tv p)(hg:g<L):ThrAt L(w.setCell⟨g,o,none⟩u).heap.size(w.setCell⟨g,o,none⟩u)tv p:=
 (h.step(iS(w:=w)(b:=g)(o:=o)(v:=u))(fun q e=>by simp only [Option.some.injEq]at e;omega)).mono(by simp)
theorem ArS.setS {W w:World} {b k c d L:Nat} {s:ByteArray} {tv sv sv':Value} {p:List(List Ins)} {l l':List Int} {v:Int × Int × Int} {us:Array Value}(h:ArS W w b s k c d L tv sv p l v us)(h':w.ownsRow L 3 1 sv' l'.length(iI l')):ArS W(w.setCell⟨c,1,none⟩sv')b s k c d L tv sv' p l' v us:=
 ⟨by simpa using h.ins.set 1 sv',ji h.thr h.lc,jb h' h.lc,h.lb,h.lc,h.ld⟩
theorem ArS.setV {W w:World} {b k c d L:Nat} {s:ByteArray} {tv sv:Value} {p:List(List Ins)} {l:List Int} {v:Int × Int × Int} {us:Array Value}(h:ArS W w b s k c d L tv sv p l v us)(x:Int × Int × Int):
  ArS W(((w.setCell⟨c,2,none⟩(.int .i64 x.1)).setCell⟨c,3,none⟩(.int .i64 x.2.1)).setCell⟨c,4,none⟩(.int .i64 x.2.2))b s k c d L tv sv p l x us:=
 ⟨by simpa using((h.ins.set 2(.int .i64 x.1)).set 3(.int .i64 x.2.1)).set 4(.int .i64 x.2.2),ji(ji(ji h.thr h.lc)h.lc)h.lc,jb(jb(jb h.own h.lc)h.lc)h.lc,h.lb,h.lc,h.ld⟩
theorem ArS.first {W w:World} {b k c d L:Nat} {s:ByteArray} {tv:Value} {p:List(List Ins)} {us:Array Value}(h:InS W w b s k 56 c d #[.slice none 0 0, .slice none 0 0, .int .i64 0, .int .i64 0, .int .i64 0]us)(ht:ThrAt L w.heap.size w tv p)(hb:b<L)(hc:c<L)(hd:d<L):
  ArS W(w.setCell⟨c,0,none⟩tv)b s k c d L tv(.slice none 0 0)p [](0,0,0)us:=
 ⟨by simpa using h.set 0 tv,ji ht hc,⟨rfl,Or.inl⟨rfl,rfl⟩⟩,hb,hc,hd⟩
theorem ArS.out {W w:World} {b k c d L:Nat} {s:ByteArray} {tv sv:Value} {p:List(List Ins)} {l:List Int} {v:Int × Int × Int} {us:Array Value}(h:ArS W w b s k c d L tv sv p l v us)(hu:us.size=5):
  ArS W(((((w.setCell⟨d,0,none⟩tv).setCell⟨d,1,none⟩sv).setCell⟨d,2,none⟩(.int .i64 v.1)).setCell⟨d,3,none⟩(.int .i64 v.2.1)).setCell⟨d,4,none⟩(.int .i64 v.2.2))b s k c d L tv sv p l v #[tv,sv, .int .i64 v.1, .int .i64 v.2.1, .int .i64 v.2.2]:=by
 obtain⟨us⟩:=us;match us,hu with
 | [a0,a1,a2,a3,a4],_=>
  exact⟨by simpa using((((h.ins.rset 0 tv).rset 1 sv).rset 2(.int .i64 v.1)).rset 3(.int .i64 v.2.1)).rset 4(.int .i64 v.2.2),
   ji(ji(ji(ji(ji h.thr h.ld)h.ld)h.ld)h.ld)h.ld,jb(jb(jb(jb(jb h.own h.ld)h.ld)h.ld)h.ld)h.ld,h.lb,h.lc,h.ld⟩
end
section
open Go.RowKit
attribute [local go_sem] Go.World.cell?_alloc_some
def GL(W:World)(b L:Nat)(s:ByteArray)(e:Ending)(w':World):Prop:=
 (km(byt s)=none/\sD e/\W.grownBy w'(some b))\/
 ∃ a tv sv,km(byt s)=some a/\e= .returned(pP tv sv a.ver)/\ThrAt L w'.heap.size w' tv a.prog/\w'.ownsRow L 3 1 sv a.sch.length(iI a.sch)/\W.grownBy w'(some b)
theorem zF(w:World)(b:Nat)(s:ByteArray)(ax:ShpAt w)(aD:b≠0)(h:RdS w w b s 0)(hs:s.size<=9223372036854775806):
  Calls Tryz.prog 97 #[pt b]w(GL w b(w.heap.size+2)s):=by
 have HH:=hZ h;have aB:=hZ ax;have hbw:=h.lt;have aF:pt b= .pointer(some⟨b,0,none⟩):=rfl;rw [aF]at*;clear h ax;go_enter Tryz.func97,Tryz.ntmps97
 go_wp2_with fail
 have I0:=InS.start(T:=56)HH.out #[.slice none 0 0, .slice none 0 0, .int .i64 0, .int .i64 0, .int .i64 0] #[.slice none 0 0, .slice none 0 0, .int .i64 0, .int .i64 0, .int .i64 0];generalize ay:(w.alloc(.cells #[.slice none 0 0, .slice none 0 0, .int .i64 0, .int .i64 0, .int .i64 0]56)).alloc(.cells #[.slice none 0 0, .slice none 0 0, .int .i64 0, .int .i64 0, .int .i64 0]56)=w1 at I0 ⊢;have aE:w.heap.size+2<=w1.heap.size:=by rw [<-ay];simp
 clear ay;refine(FN w1 w1 b 0 s I0.rd.self hs).mono ?_;rintro e w2(⟨hr,rfl,hg⟩ | ⟨_,r1,v,k1,hr,rfl,_,hS,rfl⟩)
 ·have HR:Hid(km(byt s)=none):=xG hr;have HG:=hZ(ic I0.rd.base hg);clear hr hg I0;go_wp2_with fail
  exact⟨rfl,Or.inl⟨HR.out,rfl,HG.out⟩⟩
 have aA:Hid(km(byt s)=Dt(byt s)((byt s).drop k1)):=AQ hr;have I1:=I0.call hS;have hz2:w.heap.size+2<=w2.heap.size:=Nat.le_trans aE hS.base.size;have al:=hZ I1;clear I0 hS hr I1;go_wp2_with fail
 refine(Bj w2 w2 b k1 s al.out.rd.self hs).mono ?_;rintro e w3(⟨hr,rfl,hg⟩ | ⟨p,r1,v,k2,hr,rfl,hv,hS,rfl⟩)
 ·have HR:Hid(km(byt s)=none):=by unfold Hid;rw [aA.out,Dt,hr]
  have HG:=hZ(ic al.out.rd.base hg);clear hr hg;go_wp2_with fail
  exact⟨rfl,Or.inl⟨HR.out,rfl,HG.out⟩⟩
 have aw:Hid(km(byt s)=Cm(byt s)p((byt s).drop k2)):=by unfold Hid;rw [aA.out,Dt,hr]
 obtain⟨hp4,tv,rfl,ht⟩:=hv;obtain⟨t1,t2,t3,rfl⟩:=iq ht.choose_spec.1;have ap:Hid(ThrAt(w.heap.size+2)w3.heap.size w3(.slice t1 t2 t3)p):=ht.low(by omega);have I3:=al.out.call hS;have au:=hZ I3;have c3:w3.cell?⟨w.heap.size+1,0,none⟩=some(.slice none 0 0):=by simpa using I3.cell 0
 have f3:=I3.free 0;clear ht hS hr I3;go_wp2_with fail
 have A4:=ArS.first au.out ap.out(by omega)(by omega)(by omega);clear c3 f3 au ap al;generalize w3.setCell⟨w.heap.size+1,0,none⟩(.slice t1 t2 t3)=w4 at A4 ⊢;have aC:w.heap.size+2<=w4.heap.size:=by
  have:=A4.ins.rd.base.size;have h5:=(Array.getElem?_eq_some_iff.1 A4.ins.var).1;omega
 refine(zp w4 w4 b k2 s A4.ins.rd.self hs).mono ?_;rintro e w5(⟨hr,rfl,hg⟩ | ⟨l,r1,sv,k3,hr,rfl,hv,hS,rfl⟩)
 ·have HR:Hid(km(byt s)=none):=by unfold Hid;rw [aw.out,Cm,hr]
  have HG:=hZ(ic A4.ins.rd.base hg);clear hr hg A4;go_wp2_with fail
  exact⟨rfl,Or.inl⟨HR.out,rfl,HG.out⟩⟩
 have ar:Hid(km(byt s)=Dz(byt s)p l((byt s).drop k3)):=by unfold Hid;rw [aw.out,Cm,hr]
 obtain⟨s1,s2,s3,rfl⟩:=iq hv.2;have aq:Hid(w5.ownsRow(w.heap.size+2)3 1(.slice s1 s2 s3)l.length(iI l)):=iN hv.2 aC;have ak:=hZ(A4.call hS);have c5:w5.cell?⟨w.heap.size+1,1,none⟩=some(.slice none 0 0):=by simpa using ak.out.ins.cell 1
 have f5:=ak.out.ins.free 1;clear hv hS hr A4;go_wp2_with fail
 have A6:=ak.out.setS aq.out;clear c5 f5 ak aq;generalize w5.setCell⟨w.heap.size+1,1,none⟩(.slice s1 s2 s3)=w6 at A6 ⊢;refine(Gw w6 w6 b k3 s A6.ins.rd.self hs).mono ?_;rintro e w7(⟨hr,rfl,hg⟩ | ⟨x,r1,v7,k4,hr,rfl,rfl,hS,rfl⟩)
 ·have HR:Hid(km(byt s)=none):=by unfold Hid;rw [ar.out,Dz,hr]
  have HG:=hZ(ic A6.ins.rd.base hg);clear hr hg A6;go_wp2_with fail
  exact⟨rfl,Or.inl⟨HR.out,rfl,HG.out⟩⟩
 have av:Hid(km(byt s)=Ch(byt s)⟨p,l,x⟩((byt s).drop k4)):=by unfold Hid;rw [ar.out,Dz,hr]
 have ae:=hZ(A6.call hS);obtain⟨x1,x2,x3⟩:=x;have c7:w7.cell?⟨w.heap.size+1,2,none⟩=some(.int .i64 0):=by simpa using ae.out.ins.cell 2
 have c8:w7.cell?⟨w.heap.size+1,3,none⟩=some(.int .i64 0):=by simpa using ae.out.ins.cell 3
 have c9:w7.cell?⟨w.heap.size+1,4,none⟩=some(.int .i64 0):=by simpa using ae.out.ins.cell 4
 have f7:=ae.out.ins.free 2;have f8:=ae.out.ins.free 3;have f9:=ae.out.ins.free 4;clear hS hr A6;unfold D6;go_wp2_with fail
 have A8:=ae.out.setV(x1,x2,x3);simp only at A8;clear c7 c8 c9 f7 f8 f9 ae;generalize((w7.setCell⟨w.heap.size+1,2,none⟩(.int .i64 x1)).setCell⟨w.heap.size+1,3,none⟩(.int .i64 x2)).setCell⟨w.heap.size+1,4,none⟩(.int .i64 x3)=w8 at A8 ⊢;refine(Eb w8 w8 b k4 s A8.ins.rd.self hs).mono ?_;rintro e w9(⟨hr,rfl,hg⟩ | ⟨_,r1,v9,k5,hr,rfl,_,hS,rfl⟩)
 ·have HR:Hid(km(byt s)=none):=by
   unfold Hid;rw [av.out,wW(by rw [iP];exact A8.ins.rd.le),if_neg(by rw [hr];simp)]
  have HG:=hZ(ic A8.ins.rd.base hg);clear hr hg A8;go_wp2_with fail
  exact⟨rfl,Or.inl⟨HR.out,rfl,HG.out⟩⟩
 have ao:Hid(km(byt s)=if(byt s).drop k5= []/\jF⟨p,l,(x1,x2,x3)⟩=0 then some⟨p,l,(x1,x2,x3)⟩else none):=by
  unfold Hid;rw [av.out,wW(by rw [iP];exact A8.ins.rd.le),hr]
  simp
 have ac:=hZ(A8.call hS);have c0:=ac.out.ins.rd.c0;have c1:=ac.out.ins.rd.c1;have hk5:=ac.out.ins.rd.le;clear hS A8 hr;by_cases ai:¬k5=s.size
 ·have qe:((k5:Int)==(s.size:Int))=false:=by simp;omega
  have HR:Hid(km(byt s)=none):=by
   unfold Hid;rw [ao.out,if_neg]
   intro h;have:=List.drop_eq_nil_iff.1 h.1;rw [iP]at this;omega
  clear ai;go_wp2_with fail
  go_still_tail 10,(by kernel_rfl)
  go_wp2_with(go_at_call 141;refine(jI _).mono ?_;rintro e w7⟨rfl,rfl⟩)
  exact⟨rfl,Or.inl⟨HR.out,rfl,ir ac.out.ins.rd.base⟩⟩
 have qe:((k5:Int)==(s.size:Int))=true:=by simp;omega
 have aj:Hid(km(byt s)=if jF⟨p,l,(x1,x2,x3)⟩=0 then some⟨p,l,(x1,x2,x3)⟩else none):=by
  have e:(byt s).drop k5= []:=List.drop_eq_nil_iff.2(by rw [iP];omega);unfold Hid;rw [ao.out,e];simp
 have ab:=hZ(ac.out.call(ac.out.ins.rd.self.grown(ir(il _ _))));have d0:w9.cell?⟨w.heap.size+1,0,none⟩=some(.slice t1 t2 t3):=by simpa using ac.out.ins.cell 0
 have d1:w9.cell?⟨w.heap.size+1,1,none⟩=some(.slice s1 s2 s3):=by simpa using ac.out.ins.cell 1
 have d2:w9.cell?⟨w.heap.size+1,2,none⟩=some(.int .i64 x1):=by simpa using ac.out.ins.cell 2
 have d3:w9.cell?⟨w.heap.size+1,3,none⟩=some(.int .i64 x2):=by simpa using ac.out.ins.cell 3
 have d4:w9.cell?⟨w.heap.size+1,4,none⟩=some(.int .i64 x3):=by simpa using ac.out.ins.cell 4
 clear ai ao;have an:Hid(ShpAt w9.drew):=ShpAt.past aB.out ab.out.ins.rd.base aD;have am:=hZ(s9⟨p,l,(x1,x2,x3)⟩(.slice t1 t2 t3)(.slice s1 s2 s3)w9.drew an.out ab.out.thr.progAt(jw ab.out.own));unfold pP at am;simp only at am;go_wp2_with fail
 go_still_tail 10,(by kernel_rfl)
 go_wp2_with(first | (go_at_call 141;refine(jZ _).mono ?_;rintro e w11⟨⟨v11,rfl⟩,rfl⟩))
 refine am.out.mono ?_;rintro e ad⟨rfl,ah⟩;have aa:=ab.out.call(ab.out.ins.rd.self.grown ah);have af:=hZ aa;clear c0 c1 d0 d1 d2 d3 d4 ac ab am ah;by_cases ag:jF⟨p,l,(x1,x2,x3)⟩=0
 ·have d0:ad.cell?⟨w.heap.size+1,0,none⟩=some(.slice t1 t2 t3):=by simpa using aa.ins.cell 0
  have d1:ad.cell?⟨w.heap.size+1,1,none⟩=some(.slice s1 s2 s3):=by simpa using aa.ins.cell 1
  have d2:ad.cell?⟨w.heap.size+1,2,none⟩=some(.int .i64 x1):=by simpa using aa.ins.cell 2
  have d3:ad.cell?⟨w.heap.size+1,3,none⟩=some(.int .i64 x2):=by simpa using aa.ins.cell 3
  have d4:ad.cell?⟨w.heap.size+1,4,none⟩=some(.int .i64 x3):=by simpa using aa.ins.cell 4
  have r0:ad.cell?⟨w.heap.size,0,none⟩=some(.slice none 0 0):=by simpa using aa.ins.rcell 0
  have r1:ad.cell?⟨w.heap.size,1,none⟩=some(.slice none 0 0):=by simpa using aa.ins.rcell 1
  have r2:ad.cell?⟨w.heap.size,2,none⟩=some(.int .i64 0):=by simpa using aa.ins.rcell 2
  have r3:ad.cell?⟨w.heap.size,3,none⟩=some(.int .i64 0):=by simpa using aa.ins.rcell 3
  have r4:ad.cell?⟨w.heap.size,4,none⟩=some(.int .i64 0):=by simpa using aa.ins.rcell 4
  have g0:=aa.ins.rfree 0;have g1:=aa.ins.rfree 1;have g2:=aa.ins.rfree 2;have g3:=aa.ins.rfree 3;have g4:=aa.ins.rfree 4;have HR:Hid(km(byt s)=some⟨p,l,(x1,x2,x3)⟩):=by unfold Hid;rw [aj.out,if_pos ag]
  rw [ag];clear ag aa aj;go_wp2_with(go_at_call 141;refine(jZ _).mono ?_;rintro e az⟨⟨v13,rfl⟩,rfl⟩)
  have J:=af.out.out rfl;simp only at J;clear d0 d1 d2 d3 d4 r0 r1 r2 r3 r4 g0 g1 g2 g3 g4 af;generalize hwz:(((((az.setCell⟨w.heap.size,0,none⟩(.slice t1 t2 t3)).setCell⟨w.heap.size,1,none⟩(.slice s1 s2 s3)).setCell⟨w.heap.size,2,none⟩(.int .i64 x1)).setCell⟨w.heap.size,3,none⟩(.int .i64 x2)).setCell⟨w.heap.size,4,none⟩(.int .i64 x3))=wz at J ⊢;have e0:wz.cell?⟨w.heap.size,0,none⟩=some(.slice t1 t2 t3):=by simpa using J.ins.rcell 0
  have e1:wz.cell?⟨w.heap.size,1,none⟩=some(.slice s1 s2 s3):=by simpa using J.ins.rcell 1
  have e2:wz.cell?⟨w.heap.size,2,none⟩=some(.int .i64 x1):=by simpa using J.ins.rcell 2
  have e3:wz.cell?⟨w.heap.size,3,none⟩=some(.int .i64 x2):=by simpa using J.ins.rcell 3
  have e4:wz.cell?⟨w.heap.size,4,none⟩=some(.int .i64 x3):=by simpa using J.ins.rcell 4
  refine bodyPost_ret(v:= .agg #[.slice t1 t2 t3, .slice s1 s2 s3, .int .i64 x1, .int .i64 x2, .int .i64 x3]) ?_ rfl ?_
  ·simp [results,Tryz.results97,go_sem,e0,e1,e2,e3,e4]
  ·exact Or.inr⟨⟨p,l,(x1,x2,x3)⟩,_,_,HR.out,rfl,J.thr,J.own,J.ins.rd.base⟩
 ·have qn:(jF⟨p,l,(x1,x2,x3)⟩==0)=false:=by simpa using ag
  have HR:Hid(km(byt s)=none):=by unfold Hid;rw [aj.out,if_neg ag]
  clear ag aa aj;generalize jF⟨p,l,(x1,x2,x3)⟩=ee at*;go_wp2_with(go_at_call 141;refine(jI _).mono ?_;rintro e az⟨rfl,rfl⟩)
  exact⟨rfl,Or.inl⟨HR.out,rfl,af.out.ins.rd.base⟩⟩
end
section
open Go.RowKit
attribute [local go_sem] Go.World.cell?_alloc_some
theorem yE(pa pe:Addr)(w:World):
  CallsD Tryz.prog 96 #[.pointer(some pa), .pointer(some pe)] .returning w fun e u' w'=>e= .returned(.tuple #[])/\u'= .returning/\w'=w:=by
 refine callsD_of_wpS Tryz.func96 rfl fun c₀ cs hu=> ?_
 apply wpS_seq;apply wpS_region;simp [wpOpsS,go_sem,recoverD,hu,Tryz.ntmps96,Exit.thenS];refine wpS_of_wp ?_;have aa:Array.replicate 11 undef= #[undef,undef,undef,undef,undef,undef,undef,undef,undef,undef,undef]:=rfl;simp only [aa,List.append_toArray,List.setIfInBounds_toArray,List.set_cons_succ,List.set_cons_zero,List.cons_append,List.nil_append];go_wp2_with fail
 cases c₀
 simp_all [bodyPostS,results,Tryz.results96]
theorem uj(ba be:Nat)(aa:List PanicEntry)(a0 a1 a2 a3 a4 a5:Value)(w:World)(hA:w.heap[ba]?=some(.cells #[a0,a1,a2,a3,a4]56(0,0)))(hE:w.heap[be]?=some(.cells #[a5]32(0,0)))(ac:ba≠be):
  CallsD Tryz.prog 96 #[pt ba,pt be](.panicking({ v:= .iface 174(.int .i64 3),recovered:=false }::aa))w fun e u' w'=>e= .returned(.tuple #[])/\u'= .panicking({ v:= .iface 174(.int .i64 3),recovered:=true }::aa)/\
   w'=((((((w.setCell⟨ba,0,none⟩(.slice none 0 0)).setCell⟨ba,1,none⟩(.slice none 0 0)).setCell⟨ba,2,none⟩(.int .i64 0)).setCell⟨ba,3,none⟩(.int .i64 0)).setCell⟨ba,4,none⟩(.int .i64 0)).setCell⟨be,0,none⟩(.int .i64 3)):=by
 unfold pt;refine callsD_of_wpS Tryz.func96 rfl fun c₀ cs hu=> ?_
 apply wpS_seq;apply wpS_region;simp [wpOpsS,go_sem,recoverD,hu,Tryz.ntmps96,Exit.thenS];refine wpS_of_wp ?_;have ab:Array.replicate 11 undef= #[undef,undef,undef,undef,undef,undef,undef,undef,undef,undef,undef]:=rfl;simp only [ab,List.append_toArray,List.setIfInBounds_toArray,List.set_cons_succ,List.set_cons_zero,List.cons_append,List.nil_append];have d0:w.cell?⟨ba,0,none⟩=some a0:=by simp [World.cell?,hA]
 have d1:w.cell?⟨ba,1,none⟩=some a1:=by simp [World.cell?,hA]
 have d2:w.cell?⟨ba,2,none⟩=some a2:=by simp [World.cell?,hA]
 have d3:w.cell?⟨ba,3,none⟩=some a3:=by simp [World.cell?,hA]
 have d4:w.cell?⟨ba,4,none⟩=some a4:=by simp [World.cell?,hA]
 have d5:w.cell?⟨be,0,none⟩=some a5:=by simp [World.cell?,hE]
 have z0:w.frozen?⟨ba,0,none⟩=false:=by simp [World.frozen?,hA]
 have z1:w.frozen?⟨ba,1,none⟩=false:=by simp [World.frozen?,hA]
 have z2:w.frozen?⟨ba,2,none⟩=false:=by simp [World.frozen?,hA]
 have z3:w.frozen?⟨ba,3,none⟩=false:=by simp [World.frozen?,hA]
 have z4:w.frozen?⟨ba,4,none⟩=false:=by simp [World.frozen?,hA]
 have z5:w.frozen?⟨be,0,none⟩=false:=by simp [World.frozen?,hE]
 have hba:¬be=ba:=fun e=>ac e.symm
 have hab':¬ba=be:=ac;clear hA hE;have hta:∀ w:World,(Instr.typeAssert(.iface 174(.int .i64 3))20 174 true).run Tryz.prog w= .ok(.tuple #[.int .i64 3, .bool true])w:=fun _=>by kernel_rfl
 go_wp2_with fail
 simp [bodyPostS,results,Tryz.results96]
def DecS(w:World)(L:Nat)(s:ByteArray)(e:Ending)(w':World):Prop:=w.grownBy w' none/\
 ((km(byt s)=none/\e= .returned(.tuple #[pP(.slice none 0 0)(.slice none 0 0)(0,0,0), .int .i64 3]))\/
 ∃ a tv sv,km(byt s)=some a/\e= .returned(.tuple #[pP tv sv a.ver, .int .i64 0])/\ThrAt L w'.heap.size w' tv a.prog/\w'.ownsRow L 3 1 sv a.sch.length(iI a.sch))
theorem Ad(w:World)(ba be:Nat)(a0 a1 a2 a3 a4 a5:Value)(hA:w.heap[ba]?=some(.cells #[a0,a1,a2,a3,a4]56(0,0)))(hE:w.heap[be]?=some(.cells #[a5]32(0,0)))(aa:ba≠be)(b0 b1 b2 b3 b4 b5:Value):
  let w':=(((((w.setCell⟨ba,0,none⟩b0).setCell⟨ba,1,none⟩b1).setCell⟨ba,2,none⟩b2).setCell⟨ba,3,none⟩b3).setCell⟨ba,4,none⟩b4).setCell⟨be,0,none⟩b5
  w'.cell?⟨ba,0,none⟩=some b0/\w'.cell?⟨ba,1,none⟩=some b1/\w'.cell?⟨ba,2,none⟩=some b2/\w'.cell?⟨ba,3,none⟩=some b3/\w'.cell?⟨ba,4,none⟩=some b4/\w'.cell?⟨be,0,none⟩=some b5/\
   (w'.os=w.os/\w'.tape=w.tape/\w'.output=w.output/\w'.heap.size=w.heap.size/\∀ k,k≠ba->k≠be->w'.heap[k]?=w.heap[k]?):=by
 have h1:=heap_setCell_same w ba 0 _ _ b0 hA;have h2:=heap_setCell_same _ ba 1 _ _ b1 h1;have h3:=heap_setCell_same _ ba 2 _ _ b2 h2;have h4:=heap_setCell_same _ ba 3 _ _ b3 h3;have h5:=heap_setCell_same _ ba 4 _ _ b4 h4;have g5:((((((w.setCell⟨ba,0,none⟩b0).setCell⟨ba,1,none⟩b1).setCell⟨ba,2,none⟩b2).setCell⟨ba,3,none⟩b3).setCell⟨ba,4,none⟩b4)).heap[be]?=some(.cells #[a5]32(0,0)):=by
  rw [heap_setCell_other _ _ _ _(Ne.symm aa),heap_setCell_other _ _ _ _(Ne.symm aa),heap_setCell_other _ _ _ _(Ne.symm aa),heap_setCell_other _ _ _ _(Ne.symm aa),heap_setCell_other _ _ _ _(Ne.symm aa)];exact hE
 have h6:=heap_setCell_same _ be 0 _ _ b5 g5;have g6:(((((((w.setCell⟨ba,0,none⟩b0).setCell⟨ba,1,none⟩b1).setCell⟨ba,2,none⟩b2).setCell⟨ba,3,none⟩b3).setCell⟨ba,4,none⟩b4)).setCell⟨be,0,none⟩b5).heap[ba]?=some(.cells #[b0,b1,b2,b3,b4]56(0,0)):=by
  rw [heap_setCell_other _ _ _ _ aa];exact h5
 refine⟨?_, ?_, ?_, ?_, ?_, ?_, ?_⟩
 ·simp [World.cell?,g6]
 ·simp [World.cell?,g6]
 ·simp [World.cell?,g6]
 ·simp [World.cell?,g6]
 ·simp [World.cell?,g6]
 ·simp [World.cell?,h6]
 ·have hg:w.grownBy(((((w.setCell⟨ba,0,none⟩b0).setCell⟨ba,1,none⟩b1).setCell⟨ba,2,none⟩b2).setCell⟨ba,3,none⟩b3).setCell⟨ba,4,none⟩b4)(some ba):=ic(ic(ic(ic iS iS)iS)iS)iS;have ab:(((((w.setCell⟨ba,0,none⟩b0).setCell⟨ba,1,none⟩b1).setCell⟨ba,2,none⟩b2).setCell⟨ba,3,none⟩b3).setCell⟨ba,4,none⟩b4).grownBy((((((w.setCell⟨ba,0,none⟩b0).setCell⟨ba,1,none⟩b1).setCell⟨ba,2,none⟩b2).setCell⟨ba,3,none⟩b3).setCell⟨ba,4,none⟩b4).setCell⟨be,0,none⟩b5)(some be):=iS;refine⟨ab.os.trans hg.os,ab.tape.trans hg.tape,ab.output.trans hg.output,by simp,fun k h1 h2=> ?_⟩;rw [heap_setCell_other _ _ _ _ h2,heap_setCell_other _ _ _ _ h1,heap_setCell_other _ _ _ _ h1,heap_setCell_other _ _ _ _ h1,heap_setCell_other _ _ _ _ h1,heap_setCell_other _ _ _ _ h1]
theorem uC {w w3 w4 wz:World} {b ba be:Nat}(h:w.grownBy w3 none)(h':w3.grownBy w4(some b))(hz:wz.os=w4.os/\wz.tape=w4.tape/\wz.output=w4.output/\wz.heap.size=w4.heap.size/\∀ k,k≠ba->k≠be->wz.heap[k]?=w4.heap[k]?)
  (hb:w.heap.size<=b)(ha:w.heap.size<=ba)(he:w.heap.size<=be):w.grownBy wz none:=
 ⟨hz.1.trans(h'.os.trans h.os),hz.2.1.trans(h'.tape.trans h.tape),hz.2.2.1.trans(h'.output.trans h.output),by rw [hz.2.2.2.1];exact Nat.le_trans h.size h'.size,fun k hk _=>by
  rw [hz.2.2.2.2 k(by omega)(by omega),h'.block k(Nat.lt_of_lt_of_le hk h.size)(fun e=>by simp only [Option.some.injEq]at e;omega)];exact h.block k hk(by simp)⟩
theorem nU {w w3 w4:World} {b:Nat}(h:w.grownBy w3 none)(h':w3.grownBy w4(some b))(hb:w.heap.size<=b):w.grownBy w4 none:=
 ⟨h'.os.trans h.os,h'.tape.trans h.tape,h'.output.trans h.output,Nat.le_trans h.size h'.size,fun k hk _=>by
  rw [h'.block k(Nat.lt_of_lt_of_le hk h.size)(fun e=>by simp only [Option.some.injEq]at e;omega)];exact h.block k hk(by simp)⟩
theorem F3(s:ByteArray)(w:World)(ai:ShpAt w)(hs:s.size<=9223372036854775806):
  Calls Tryz.prog 70 #[.string s]w(DecS w(w.heap.size+5)s):=by
 have hmf:∀ (fn:Fn)(first cap:Array Value)(w:World),(Instr.makeFunc fn first cap).run Tryz.prog w= .ok(.func fn first cap)w:=fun _ _ _ _=>rfl
 have aq:=hZ ai;clear ai;go_enter_defers Tryz.func70,Tryz.ntmps70
 go_wp2_with fail
 have ad:w.grownBy(((w.alloc(.cells #[.slice none 0 0, .slice none 0 0, .int .i64 0, .int .i64 0, .int .i64 0]56)).alloc(.cells #[.int .i64 0]32)).alloc(.cells #[.string s, .int .i64 0]176))none:=ij(ij(ij(il _ _)));have af:(((w.alloc(.cells #[.slice none 0 0, .slice none 0 0, .int .i64 0, .int .i64 0, .int .i64 0]56)).alloc(.cells #[.int .i64 0]32)).alloc(.cells #[.string s, .int .i64 0]176)).heap[w.heap.size]?=some(.cells #[.slice none 0 0, .slice none 0 0, .int .i64 0, .int .i64 0, .int .i64 0]56(0,0)):=by
  rw [Below.heap_alloc _ _ _(by simp;omega),Below.heap_alloc _ _ _(by simp)];exact heap_alloc_new _ _
 have ae:(((w.alloc(.cells #[.slice none 0 0, .slice none 0 0, .int .i64 0, .int .i64 0, .int .i64 0]56)).alloc(.cells #[.int .i64 0]32)).alloc(.cells #[.string s, .int .i64 0]176)).heap[w.heap.size+1]?=some(.cells #[.int .i64 0]32(0,0)):=by
  rw [Below.heap_alloc _ _ _(by simp)];have:=heap_alloc_new(w.alloc(.cells #[.slice none 0 0, .slice none 0 0, .int .i64 0, .int .i64 0, .int .i64 0]56))(.cells #[.int .i64 0]32);simpa using this
 have ag:(((w.alloc(.cells #[.slice none 0 0, .slice none 0 0, .int .i64 0, .int .i64 0, .int .i64 0]56)).alloc(.cells #[.int .i64 0]32)).alloc(.cells #[.string s, .int .i64 0]176)).heap[w.heap.size+1+1]?=some(.cells #[.string s, .int .i64 0]176(0,0)):=by
  have:=heap_alloc_new((w.alloc(.cells #[.slice none 0 0, .slice none 0 0, .int .i64 0, .int .i64 0, .int .i64 0]56)).alloc(.cells #[.int .i64 0]32))(.cells #[.string s, .int .i64 0]176);simpa using this
 have an:(((w.alloc(.cells #[.slice none 0 0, .slice none 0 0, .int .i64 0, .int .i64 0, .int .i64 0]56)).alloc(.cells #[.int .i64 0]32)).alloc(.cells #[.string s, .int .i64 0]176)).heap.size=w.heap.size+3:=by simp
 generalize(((w.alloc(.cells #[.slice none 0 0, .slice none 0 0, .int .i64 0, .int .i64 0, .int .i64 0]56)).alloc(.cells #[.int .i64 0]32)).alloc(.cells #[.string s, .int .i64 0]176))=w3 at ad af ae ag an ⊢;have ap:=hZ(zF w3(w.heap.size+1+1)s(ShpAt.pres aq.out(ie ad))(by omega)⟨ag,il _ _,Nat.zero_le _⟩hs);have HL:Hid(w3.heap.size+2=w.heap.size+5):=by unfold Hid;omega
 have ah:=hZ ad;have ac:∀ w4,w3.grownBy w4(some(w.heap.size+1+1))->w4.heap[w.heap.size]?=some(.cells #[.slice none 0 0, .slice none 0 0, .int .i64 0, .int .i64 0, .int .i64 0]56(0,0))/\w4.heap[w.heap.size+1]?=some(.cells #[.int .i64 0]32(0,0)):=fun w4 hg=>
  ⟨by rw [hg.block _(by omega)(by simp only [ne_eq,Option.some.injEq];omega)];exact af,by rw [hg.block _(by omega)(by simp only [ne_eq,Option.some.injEq];omega)];exact ae⟩
 have ak:=hZ ac;clear ad af ae ag an ac;refine ap.out.mono ?_;rintro e w4(⟨hr,rfl,hg⟩ | ⟨a,tv,sv,hr,rfl,ht,ho,hg⟩)
 ·have HR:=hZ hr;obtain⟨aa,ab⟩:=ak.out w4 hg;have HG:=hZ hg;clear hr hg;go_wp2_with fail
  refine leaves_cons(f:=96)(args:= #[pt w.heap.size,pt(w.heap.size+1)])(by simp)(by simp [go_sem,pt]) ?_;refine(uj w.heap.size(w.heap.size+1) []_ _ _ _ _ _ w4 aa ab(by omega)).mono ?_;rintro e u' w5⟨rfl,rfl,rfl⟩;have J:=Ad w4 w.heap.size(w.heap.size+1)_ _ _ _ _ _ aa ab(by omega)(.slice none 0 0)(.slice none 0 0)(.int .i64 0)(.int .i64 0)(.int .i64 0)(.int .i64 3);generalize((((((w4.setCell⟨w.heap.size,0,none⟩(.slice none 0 0)).setCell⟨w.heap.size,1,none⟩(.slice none 0 0)).setCell⟨w.heap.size,2,none⟩(.int .i64 0)).setCell⟨w.heap.size,3,none⟩(.int .i64 0)).setCell⟨w.heap.size,4,none⟩(.int .i64 0)).setCell⟨w.heap.size+1,0,none⟩(.int .i64 3))=wz at J ⊢;obtain⟨e0,e1,e2,e3,e4,e5,hz⟩:=J;simp [Leaves,settle,results,Tryz.results70,go_sem,e0,e1,e2,e3,e4,e5];refine⟨uC ah.out HG.out hz(by omega)(by omega)(by omega),Or.inl⟨HR.out,rfl⟩⟩
 ·have HR:=hZ hr;obtain⟨aa,ab⟩:=ak.out w4 hg;have HG:=hZ hg;obtain⟨t1,t2,t3,rfl⟩:=iq ht.choose_spec.1;obtain⟨s1,s2,s3,rfl⟩:=iq ho;obtain⟨p,l,x1,x2,x3⟩:=a;have HT:=hZ ht;have HO:=hZ ho;have d0:w4.cell?⟨w.heap.size,0,none⟩=some(.slice none 0 0):=by simp [World.cell?,aa]
  have z0:w4.frozen?⟨w.heap.size,0,none⟩=false:=by simp [World.frozen?,aa]
  have d1:w4.cell?⟨w.heap.size,1,none⟩=some(.slice none 0 0):=by simp [World.cell?,aa]
  have z1:w4.frozen?⟨w.heap.size,1,none⟩=false:=by simp [World.frozen?,aa]
  have d2:w4.cell?⟨w.heap.size,2,none⟩=some(.int .i64 0):=by simp [World.cell?,aa]
  have z2:w4.frozen?⟨w.heap.size,2,none⟩=false:=by simp [World.frozen?,aa]
  have d3:w4.cell?⟨w.heap.size,3,none⟩=some(.int .i64 0):=by simp [World.cell?,aa]
  have z3:w4.frozen?⟨w.heap.size,3,none⟩=false:=by simp [World.frozen?,aa]
  have d4:w4.cell?⟨w.heap.size,4,none⟩=some(.int .i64 0):=by simp [World.cell?,aa]
  have z4:w4.frozen?⟨w.heap.size,4,none⟩=false:=by simp [World.frozen?,aa]
  have d5:w4.cell?⟨w.heap.size+1,0,none⟩=some(.int .i64 0):=by simp [World.cell?,ab]
  have z5:w4.frozen?⟨w.heap.size+1,0,none⟩=false:=by simp [World.frozen?,ab]
  clear hr hg ht ho;unfold pP;simp only at HT HO ⊢;go_wp2_with fail
  refine leaves_cons(f:=96)(args:= #[pt w.heap.size,pt(w.heap.size+1)])(by simp)(by simp [go_sem,pt]) ?_;refine(yE⟨w.heap.size,0,none⟩⟨w.heap.size+1,0,none⟩_).mono ?_;rintro e u' w5⟨rfl,rfl,rfl⟩;have J:=Ad w4 w.heap.size(w.heap.size+1)_ _ _ _ _ _ aa ab(by omega)(.slice t1 t2 t3)(.slice s1 s2 s3)(.int .i64 x1)(.int .i64 x2)(.int .i64 x3)(.int .i64 0);have am:=hZ(ji(g:=w.heap.size+1)(o:=0)(u:= .int .i64 0)(ji(g:=w.heap.size)(o:=4)(u:= .int .i64 x3)(ji(g:=w.heap.size)(o:=3)(u:= .int .i64 x2)(ji(g:=w.heap.size)(o:=2)(u:= .int .i64 x1)(ji(g:=w.heap.size)(o:=1)(u:= .slice s1 s2 s3)(ji(g:=w.heap.size)(o:=0)(u:= .slice t1 t2 t3)HT.out(by have:=HL.out;omega))(by have:=HL.out;omega))(by have:=HL.out;omega))(by have:=HL.out;omega))(by have:=HL.out;omega))(by have:=HL.out;omega));have aj:=hZ(jb(g:=w.heap.size+1)(o:=0)(u:= .int .i64 0)(jb(g:=w.heap.size)(o:=4)(u:= .int .i64 x3)(jb(g:=w.heap.size)(o:=3)(u:= .int .i64 x2)(jb(g:=w.heap.size)(o:=2)(u:= .int .i64 x1)(jb(g:=w.heap.size)(o:=1)(u:= .slice s1 s2 s3)(jb(g:=w.heap.size)(o:=0)(u:= .slice t1 t2 t3)HO.out(by have:=HL.out;omega))(by have:=HL.out;omega))(by have:=HL.out;omega))(by have:=HL.out;omega))(by have:=HL.out;omega))(by have:=HL.out;omega));generalize((((((w4.setCell⟨w.heap.size,0,none⟩(.slice t1 t2 t3)).setCell⟨w.heap.size,1,none⟩(.slice s1 s2 s3)).setCell⟨w.heap.size,2,none⟩(.int .i64 x1)).setCell⟨w.heap.size,3,none⟩(.int .i64 x2)).setCell⟨w.heap.size,4,none⟩(.int .i64 x3)).setCell⟨w.heap.size+1,0,none⟩(.int .i64 0))=wz at J am aj ⊢;obtain⟨e0,e1,e2,e3,e4,e5,hz⟩:=J;simp [Leaves,settle,results,Tryz.results70,go_sem,e0,e1,e2,e3,e4,e5];have ao:=am.out;have al:=aj.out;rw [HL.out]at ao al;exact⟨uC ah.out HG.out hz(by omega)(by omega)(by omega),Or.inr⟨_,_,_,HR.out,rfl,ao,al⟩⟩
end
end Go.Proofs.YtklenjmfalljgabGreatDoor
