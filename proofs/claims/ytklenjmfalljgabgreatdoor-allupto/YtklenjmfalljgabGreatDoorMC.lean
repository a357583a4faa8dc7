/- The texts Rfe Rff Rfg Rfh Eq4 Ask PureC Hnd Hnd2 Hnd3 Hnd4 Hga Hgb Hgc Hge. -/
import Derived.Test.YtklenjmfalljgabGreatDoorMB
import Derived.ChangeKeysEq
import Derived.Laws.CopyOwn
namespace Go.Proofs.YtklenjmfalljgabGreatDoor
set_option maxRecDepth 100000
set_option maxHeartbeats 8000000
section
open Go.RowKit
def LkOk(s:St):Prop:=∀ l,s.held l=true->0<=s.own l
theorem LkOk.zero:LkOk St.zero:=fun l h=>by simp [St.zero]at h
theorem LkOk.setNext {s:St}(h:LkOk s)(t:Nat)(v:Int):LkOk(s.setNext t v):=h
theorem LkOk.setLock {s:St}(h:LkOk s)(l:Nat)(hd:Bool)(o:Int)(ho:0<=o):LkOk(s.setLock l hd o):=fun l' e=>by
 simp only [St.setLock]at e ⊢;by_cases hl:l'=l
 ·simp [hl,ho]
 ·simp only [hl,if_false]at e ⊢;exact h l' e
theorem LkOk.act {s:St}(h:LkOk s)(t:Nat)(i:Ins):LkOk(act t i s).2:=by
 by_cases h9:i.op=9
 ·have e:Go.Proofs.YtklenjmfalljgabGreatDoor.act t i s=(true,s.setLock i.a.toNat true t):=by simp [Go.Proofs.YtklenjmfalljgabGreatDoor.act,h9]
  rw [e];exact h.setLock _ _ _(by omega)
 ·by_cases aa:i.op=10
  ·by_cases hz:s.held i.a.toNat=true/\s.own i.a.toNat=t
   ·have e:Go.Proofs.YtklenjmfalljgabGreatDoor.act t i s=(true,s.setLock i.a.toNat false 0):=by simp [Go.Proofs.YtklenjmfalljgabGreatDoor.act,aa,hz]
    rw [e];exact h.setLock _ _ _(by omega)
   ·have e:Go.Proofs.YtklenjmfalljgabGreatDoor.act t i s=(false,s):=by
     simp only [Go.Proofs.YtklenjmfalljgabGreatDoor.act,aa];simp [hz]
    rw [e];exact h
  ·have e:(Go.Proofs.YtklenjmfalljgabGreatDoor.act t i s).2.held=s.held/\(Go.Proofs.YtklenjmfalljgabGreatDoor.act t i s).2.own=s.own:=by
    unfold Go.Proofs.YtklenjmfalljgabGreatDoor.act;rw [if_neg h9,if_neg aa];repeat' split
    all_goals exact⟨rfl,rfl⟩
   intro l hl;rw [e.1]at hl;rw [e.2];exact h l hl
theorem LkOk.step {s:St}(h:LkOk s)(p:List(List Ins))(t:Nat):LkOk(jM p s t).2:=LkOk.act(h.setNext _ _)_ _
theorem LkOk.own {s:St}(h:LkOk s)(l:Nat):decide(tE s l<0)= !s.held l:=by
 unfold tE;cases e:s.held l
 ·simp
 ·have:=h l e;simp;omega
theorem Cv {w0:World} {ao:Option Addr} {aa:Nat} {p:List(List Ins)}(hP:ProgAt w0(.agg #[.slice ao p.length aa])p) {t:Nat}(ht:t<p.length):
  ∃ g o,ao=some⟨g,o,none⟩/\∃ rv,w0.cell?⟨g,o+t,none⟩=some rv/\CodeAt w0 rv(iL p t):=by
 obtain⟨ao',cap',e,h⟩:=hP;simp only [Value.agg.injEq,Array.mk.injEq,List.cons.injEq,Value.slice.injEq,and_true,true_and]at e;obtain⟨rfl,rfl⟩:=e;obtain⟨g,o,e1,rv,e2,e3⟩:=h t ht;exact⟨g,o,e1,rv,e2,by rw [nw ht];exact e3⟩
theorem FQ {w0 w:World} {ao:Option Addr} {aa:Nat} {p:List(List Ins)}(hp:iR p=true)(hP:ProgAt w0(.agg #[.slice ao p.length aa])p) {b ab rb:Nat} {st:Value} {s:St} {ac:List(Int × Int)} {k th a:Int}
  (hR:RunAt w0 w b ab rb p.length(.slice ao p.length aa)st s ac k th a)(hI:Inv p s) {t:Nat}(ht:t<p.length):
  Calls Tryz.prog 38 #[.pointer(some⟨b,0,none⟩), .int .i64 t]w fun e w'=>e= .returned(.bool(jO p s t))/\w.grownBy w' none:=by
 have hn:=ju hp;obtain⟨g,o,rfl,rv,h1,ca,cc,rfl,_⟩:=Cv hP ht;refine(vq b ab p.length aa p.length g o t _ cc ca(s.next t)w ht(by omega)(lh(kl hp ht))(hR.cell 0).1(hR.cell 1).1(ie hR.frame _ _ h1)(hR.at_ ht).1).mono ?_;rintro e w'⟨rfl,hl⟩;refine⟨?_,jd(il _ _)hl⟩;have:=hI t ht;congr 2
 unfold jO;rw [Bool.eq_iff_iff];simp;omega
theorem zU {w0 w:World} {ao:Option Addr} {ac:Nat} {p:List(List Ins)}(hp:iR p=true)(hP:ProgAt w0(.agg #[.slice ao p.length ac])p) {b ab rb:Nat} {st:Value} {s:St} {ag:List(Int × Int)} {k th a:Int}
  (hR:RunAt w0 w b ab rb p.length(.slice ao p.length ac)st s ag k th a)(hI:Inv p s)(hL:LkOk s) {t:Nat}(ht:t<p.length):
  Calls Tryz.prog 36 #[.pointer(some⟨b,0,none⟩), .int .i64 t]w fun e w'=>e= .returned(.bool(jB p s t))/\w.grownBy w' none:=by
 have hn:=ju hp;have hin:=hI t ht;obtain⟨g,o,rfl,rv,h1,ca,cc,rfl,hc⟩:=Cv hP ht;by_cases hd:s.next t=((iL p t).length:Int)
 ·refine(wR b ab p.length ac p.length g o t _ cc ca(s.next t)w ht(by omega)(lh(kl hp ht))(by omega)(hR.cell 0).1(hR.cell 1).1(ie hR.frame _ _ h1)(hR.at_ ht).1).mono ?_;rintro e w'⟨rfl,hg⟩;exact⟨by simp [jB,jO,hd],hg⟩
 ·obtain⟨kk,ae⟩:∃ kk:Nat,s.next t=kk:=⟨(s.next t).toNat,by omega⟩;have aa:kk<(iL p t).length:=by omega
  obtain⟨h,ho,rfl,x1,x2,x3,x4⟩:=hc kk aa;have hv:=mh hp ht(k:=(kk:Int))(by simpa using aa);have ah:jq p t(s.next t)=(iL p t)[kk]:=by rw [ae,mJ(by simpa using aa)];simp
  have ad:jq p t(kk:Int)=(iL p t)[kk]:=by rw [mJ(by simpa using aa)];simp
  rw [ad]at hv;have hF:=ie hR.frame;have say:=pf hv;refine(CZ b ab p.length ac p.length g o t _ cc h ho kk(iL p t)[kk](tE s(iL p t)[kk].a.toNat)w ht(by omega)(lh(kl hp ht))aa(by omega)(by omega)(hR.cell 0).1(hR.cell 1).1(hF _ _ h1)(by rw [(hR.at_ ht).1,ae])(hF _ _ x1)(hF _ _ x2)(hF _ _ x3)(hF _ _ x4)(Array.getElem?_eq_some_iff.1 hR.main).1(fun e=>hR.own(by omega))).mono ?_;rintro e w'⟨rfl,hg⟩;refine⟨?_,hg⟩;have af:jO p s t=false:=by simpa [jO]using hd
  rw [hL.own,jB,af,ah];simp
theorem FM {w0 w:World} {ao:Option Addr} {ac:Nat} {p:List(List Ins)}(hp:iR p=true)(hP:ProgAt w0(.agg #[.slice ao p.length ac])p) {b ab rb:Nat} {st:Value} {s:St} {ae:List(Int × Int)} {k th a:Int}
  (hR:RunAt w0 w b ab rb p.length(.slice ao p.length ac)st s ae k th a)(hI:Inv p s) {t:Nat}(ht:t<p.length)(hd:jO p s t=false)(ag:ae.length<1048576):
  Calls Tryz.prog 37 #[.pointer(some⟨b,0,none⟩), .int .i64 t]w fun e w'=>∃ st',e= .returned(.bool(jM p s t).1)/\
   RunAt w0 w' b ab rb p.length(.slice ao p.length ac)st'(jM p s t).2(ae++ [((t:Int),s.next t)])k th a:=by
 have hn:=ju hp;have hin:=hI t ht;obtain⟨g,o,rfl,rv,h1,ca,cc,rfl,hc⟩:=Cv hP ht;have hd':¬s.next t=((iL p t).length:Int):=by simpa [jO]using hd
 obtain⟨kk,af⟩:∃ kk:Nat,s.next t=kk:=⟨(s.next t).toNat,by omega⟩;have ad:kk<(iL p t).length:=by omega
 obtain⟨h,ho,rfl,x1,x2,x3,x4⟩:=hc kk ad;have hv:=mh hp ht(k:=(kk:Int))(by simpa using ad);have aa:jq p t(kk:Int)=(iL p t)[kk]:=by rw [mJ(by simpa using ad)];simp
 rw [aa]at hv;have hF:=ie hR.frame;have ah:jM p s t=act t(iL p t)[kk](s.setNext t(kk+1)):=by unfold jM;rw [af,aa]
 rw [ah,af];exact EB w0 w b ab rb p.length ac g o t _ cc h ho kk st s ae k th a(iL p t)[kk](by omega)ht(lh(kl hp ht))ad ag hR af(hF _ _ h1)(hF _ _ x1)(hF _ _ x2)(hF _ _ x3)(hF _ _ x4)hv _ rfl _ rfl
end
section
open Go.RowKit
attribute [local go_sem] Go.World.cell?_alloc_some
theorem FJ(n:Nat)(hN:n=1\/n=2\/n=3\/n=4):
  (∀ u:World,(Instr.makeSlice 39(.int .i64 n)(.int .i64 n)).run Tryz.prog u= .ok(.slice(some⟨u.heap.size,0,none⟩)n n)(u.alloc(.cells(atF n St.zero).toArray 3)))/\
  (∀ u:World,(Instr.makeSlice 29(.int .i64 n)(.int .i64 n)).run Tryz.prog u= .ok(.slice(some⟨u.heap.size,0,none⟩)n n)(u.alloc(.cells(jm n St.zero).toArray 28))):=by
 obtain⟨i0,ae,ah,ab,ag⟩:=info_parts kt;obtain⟨i1,af,ad,aa,ac⟩:=info_parts xS;constructor
 ·intro u;have:=run_makeSlice(P:=Tryz.prog)u 39 3 i0 _ Tryz.underlying39 ae ah .i64 .i64 n n(by omega)(Int.le_refl _)(by rw [ab];omega)(by rw [ag];omega)(by omega);rw [this,ab];have e:madeCells(Value.int .i64 0).cells((n:Int).toNat*1)=(atF n St.zero).toArray:=by
   rcases hN with rfl | rfl | rfl | rfl<;>first | kernel_rfl | simp [madeCells,atF,Value.cells,St.zero,Array.range,List.range_succ]
  rw [e];rfl
 ·intro u;have:=run_makeSlice(P:=Tryz.prog)u 29 28 i1 _ Tryz.underlying29 af ad .i64 .i64 n n(by omega)(Int.le_refl _)(by rw [aa];omega)(by rw [ac];omega)(by omega);rw [this,aa];have e:madeCells(Value.agg #[.int .i64 0, .int .i64 0, .int .i64 0, .int .i64 0]).cells((n:Int).toNat*4)=(jm n St.zero).toArray:=by
   rcases hN with rfl | rfl | rfl | rfl<;>first | kernel_rfl | simp [madeCells,jm,Value.cells,St.zero,Array.range,List.range_succ]
  rw [e];rfl
theorem tF(w:World)(X:Obj)(n:Nat)(ps:Value)(t1:TypeId):RunAt w((((w.alloc X).alloc(.cells(atF n St.zero).toArray t1)).alloc(.cells(jm n St.zero).toArray 28)).alloc(.cells(wT ps(w.heap.size+1)(w.heap.size+1+1)n(.slice none 0 0)St.zero 0 0 0)51))
  (w.heap.size+1+1+1)(w.heap.size+1)(w.heap.size+1+1)n ps(.slice none 0 0)St.zero []0 0 0:=by
 refine⟨?_,⟨t1, ?_⟩, ?_,⟨rfl,Or.inl⟨rfl,rfl⟩⟩,ij(ij(ij(ij(il _ _)))),by omega,by omega,by omega,by omega,by omega⟩
 ·have:=heap_alloc_new(((w.alloc X).alloc(.cells(atF n St.zero).toArray t1)).alloc(.cells(jm n St.zero).toArray 28))(.cells(wT ps(w.heap.size+1)(w.heap.size+1+1)n(.slice none 0 0)St.zero 0 0 0)51);simpa using this
 ·rw [Below.heap_alloc _ _ _(by simp),Below.heap_alloc _ _ _(by simp)];have:=heap_alloc_new(w.alloc X)(.cells(atF n St.zero).toArray t1);simpa using this
 ·rw [Below.heap_alloc _ _ _(by simp)];have:=heap_alloc_new((w.alloc X).alloc(.cells(atF n St.zero).toArray t1))(.cells(jm n St.zero).toArray 28);simpa using this
theorem sI(w:World)(X:Obj)(n:Nat)(ps:Value)(t1:TypeId):RunAt w((((w.alloc X).alloc(.cells(jm n St.zero).toArray 28)).alloc(.cells(atF n St.zero).toArray t1)).alloc(.cells(wT ps(w.heap.size+1+1)(w.heap.size+1)n(.slice none 0 0)St.zero 0 0 0)51))
  (w.heap.size+1+1+1)(w.heap.size+1+1)(w.heap.size+1)n ps(.slice none 0 0)St.zero []0 0 0:=by
 refine⟨?_,⟨t1, ?_⟩, ?_,⟨rfl,Or.inl⟨rfl,rfl⟩⟩,ij(ij(ij(ij(il _ _)))),by omega,by omega,by omega,by omega,by omega⟩
 ·have:=heap_alloc_new(((w.alloc X).alloc(.cells(jm n St.zero).toArray 28)).alloc(.cells(atF n St.zero).toArray t1))(.cells(wT ps(w.heap.size+1+1)(w.heap.size+1)n(.slice none 0 0)St.zero 0 0 0)51);simpa using this
 ·rw [Below.heap_alloc _ _ _(by simp)];have:=heap_alloc_new((w.alloc X).alloc(.cells(jm n St.zero).toArray 28))(.cells(atF n St.zero).toArray t1);simpa using this
 ·rw [Below.heap_alloc _ _ _(by simp),Below.heap_alloc _ _ _(by simp)];have:=heap_alloc_new(w.alloc X)(.cells(jm n St.zero).toArray 28);simpa using this
theorem RunAt.verdict {w0 w:World} {b ab rb n:Nat} {ps st:Value} {s:St} {aa:List(Int × Int)} {k th a:Int}(h:RunAt w0 w b ab rb n ps st s aa k th a)(k' ac a':Int):
  RunAt w0(((w.setCell⟨b,11,none⟩(.int .i64 k')).setCell⟨b,12,none⟩(.int .i64 ac)).setCell⟨b,13,none⟩(.int .i64 a'))b ab rb n ps st s aa k' ac a':=by
 have h1:RunAt w0(w.setCell⟨b,11,none⟩(.int .i64 k'))b ab rb n ps st s aa k' th a:=h.setMain rfl rfl rfl h.row;have h2:RunAt w0((w.setCell⟨b,11,none⟩(.int .i64 k')).setCell⟨b,12,none⟩(.int .i64 ac))b ab rb n ps st s aa k' ac a:=h1.setMain rfl rfl rfl h1.row;exact h2.setMain rfl rfl rfl h2.row
theorem RunAt.vcells {w0 w:World} {b ab rb n:Nat} {ps st:Value} {s:St} {acc:List(Int × Int)} {k th a:Int}(h:RunAt w0 w b ab rb n ps st s acc k th a):
  w.cell?⟨b,10,none⟩=some st/\w.cell?⟨b,11,none⟩=some(.int .i64 k)/\w.cell?⟨b,12,none⟩=some(.int .i64 th)/\w.cell?⟨b,13,none⟩=some(.int .i64 a)/\w.frozen?⟨b,11,none⟩=false/\w.frozen?⟨b,12,none⟩=false/\w.frozen?⟨b,13,none⟩=false:=
 ⟨(h.cell 10).1,(h.cell 11).1,(h.cell 12).1,(h.cell 13).1,(h.cell 11).2,(h.cell 12).2,(h.cell 13).2⟩
theorem RunAt.kind {w0 w:World} {b ab rb n:Nat} {ps st:Value} {s:St} {acc:List(Int × Int)} {k th a:Int}(h:RunAt w0 w b ab rb n ps st s acc k th a)(k':Int):
  RunAt w0(w.setCell⟨b,11,none⟩(.int .i64 k'))b ab rb n ps st s acc k' th a:=h.setMain rfl rfl rfl h.row
theorem RunAt.last {w0 w:World} {b ab rb n:Nat} {ps st:Value} {s:St} {aa:List(Int × Int)} {k th a:Int} {x:Int × Int}(h:RunAt w0 w b ab rb n ps st s(aa++ [x])k th a):
  ∃ g cap,st= .slice(some⟨g,0,none⟩)(aa.length+1)cap/\w.cell?⟨g,aa.length*2,none⟩=some(.int .i64 x.1)/\w.cell?⟨g,aa.length*2+1,none⟩=some(.int .i64 x.2):=by
 have hr:=h.row;rw [List.length_append]at hr;have hl:∀ q:List(Int × Int),(iO q).length=q.length*2:=fun q=>by
  induction q with
  | nil=>rfl
  | cons y q ih=>
   have:iO(y::q)= .int .i64 y.1:: .int .i64 y.2::iO q:=rfl;rw [this];simp [ih];omega
 rcases hr.2 with⟨_,e2⟩ | ⟨g,cap,cur,hv,hb,hh,hx⟩
 ·simp at e2
 ·have key:∀ j v,(iO(aa++ [x]))[j]?=some v->w.cell?⟨g,j,none⟩=some v:=fun j v e=>by
   rw [<-hx.2.2.2,List.getElem?_take]at e;by_cases hj:j<(aa.length+ [x].length)*2
   ·rw [if_pos hj]at e;simp only [World.cell?,hh];simpa using e
   ·rw [if_neg hj]at e;cases e
  refine⟨g,cap,hv,key _ _ ?_,key _ _ ?_⟩
  ·rw [nu,List.getElem?_append_right(by rw [hl];omega),hl];simp
  ·rw [nu,List.getElem?_append_right(by rw [hl];omega),hl];simp
end
section
open Go.RowKit
attribute [local go_sem] Go.World.cell?_alloc_some
def Gt(w:World)(n:Nat)(ps:Value)(o:Out)(e:Ending)(w':World):Prop:=
 ∃ b ab rb st,e= .returned(.pointer(some⟨b,0,none⟩))/\RunAt w w' b ab rb n ps st o.st o.steps o.kind o.thread o.at_
theorem pV(w:World)(ao:Option Addr)(am:Nat)(p:List(List Ins))(sv:Value)(aa:List Int)(hp:iR p=true)(hP:ProgAt w(.agg #[.slice ao p.length am])p)(hI:IntsAt w.heap.size w sv aa)(h500:aa.length<=1048576):
  Calls Tryz.prog 10 #[.agg #[.slice ao p.length am],sv]w(Gt w p.length(.slice ao p.length am)(iF p aa)):=by
 have hn:=ju hp;have HP:=hZ hP;have HV:=hZ hp;have HI:=hZ hI;clear hp hP hI;go_enter Tryz.func10,Tryz.ntmps10
 go_upto_region 2 with fail
 go_cut [6](fun pv w'=>∃ b ab rb st,pv= .pointer(some⟨b,0,none⟩)/\RunAt w w' b ab rb p.length(.slice ao p.length am)st St.zero []0 0 0)
 case first=>
  have hN:p.length=1\/p.length=2\/p.length=3\/p.length=4:=by omega
  clear HP HV;generalize p.length=n at*;obtain⟨hmA,hmB⟩:=FJ n hN;have n4:(n:Int)<=4:=by omega
  clear hN;go_region
  all_goals go_wp2
  all_goals go_meet
  ·first | exact⟨_,_,_,_,rfl,(tF w _ n _ _).like⟨rfl,rfl,rfl,rfl⟩⟩ | exact⟨_,_,_,_,rfl,(sI w _ n _ _).like⟨rfl,rfl,rfl,rfl⟩⟩
  ·first | exact⟨_,_,_,_,rfl,(tF w _ n _ _).like⟨rfl,rfl,rfl,rfl⟩⟩ | exact⟨_,_,_,_,rfl,(sI w _ n _ _).like⟨rfl,rfl,rfl,rfl⟩⟩
 case rest=>
  obtain⟨b,ab,rb,a0,rfl,aL⟩:=hcut;have a2:=hZ aL;clear aL;obtain⟨so,sc,rfl,hsz,ae⟩:=HI.out;have HC:=hZ ae;clear ae HI;have q1:(aa.length:Int)<=1048576:=by omega
  have q2:(p.length:Int)<=4:=by omega
  go_wp2_with fail
  go_loopw [7](fun i w'=>∃ (k:Nat)(s:St)(ac:List(Int × Int))(st:Value),k<=aa.length/\i= .int .i64 k/\Hid(ac.length=k)/\Hid(RunAt w w' b ab rb p.length(.slice ao p.length am)st s ac 0 0 0)/\Hid(Inv p s)/\Hid(LkOk s)/\
   Hid(iF p aa=ja p(aa.drop k)k s ac))(fun i _=>aa.length - (intOf i).toNat)
  case atStart=>exact⟨0,St.zero, [],a0,Nat.zero_le _,rfl,rfl,a2,Inv.zero p,LkOk.zero,rfl⟩
  case round=>
   obtain⟨k,s,ac,st,hk,rfl,aw,HR,aq,aE,HF⟩:=hrel;obtain⟨w5,aK⟩:∃ w5,w5=wr:=⟨_,rfl⟩;rw [<-aK]at HR ⊢;clear aK;by_cases ar:k<aa.length
   ·obtain⟨gb,go,rfl,hgb,hc⟩:=HC.out k ar;have aB:=ie HR.out.frame _ _ hc;clear hc;have HD:Hid(aa.drop k=aa[k]::aa.drop(k+1)):=List.drop_eq_getElem_cons ar;generalize aa[k]=t at*;have hk0:(0:Int)<=(k:Int):=by omega
    have aW:(k:Int)<aa.length:=by omega
    obtain⟨_,al,ai,ak,ah,aj,ag⟩:=HR.out.vcells;by_cases aQ:0<=t
    ·by_cases a3:t<p.length
     ·obtain⟨t',rfl⟩:=Int.eq_ofNat_of_zero_le aQ;have ax:t'<p.length:=by omega
      go_wp2_with fail
      refine(zU HV.out HP.out HR.out aq.out aE.out ax).mono ?_;rintro e w6⟨rfl,aF⟩;have av:=hZ(HR.out.grown aF);replace aB:=ie aF _ _ aB;clear aF al ai ak ah aj ag HR;obtain⟨_,al,ai,ak,ah,aj,ag⟩:=av.out.vcells;cases hrd:jB p s t'
      ·have HW:Hid(iF p aa=⟨ac,2,0,k,s⟩):=by
        unfold Hid;rw [HF.out,HD.out];exact ku _ _ _ _ _ _(by simp [nh,hrd])
       clear hrd;go_wp2_with fail
       go_ret;rw [HW.out];exact⟨b,ab,rb,st,rfl,av.out.verdict 2 0 k⟩
      ·have HK:Hid(nh p s t'=true):=by
        unfold Hid nh jA;simp [hrd,ax]
       have aN:Hid(jO p s t'=false):=by
        unfold Hid;cases hd:jO p s t' with
        | false=>rfl
        | true=>simp [jB,hd]at hrd
       clear hrd al ai ak ah aj ag;go_wp2_with fail
       refine(FM HV.out HP.out av.out aq.out ax aN.out(by rw [aw.out];omega)).mono ?_;rintro e w7⟨a1,rfl,aI⟩;have ad:=hZ aI;clear aI av aB;cases hstp:(jM p s t').1
       ·have HW:Hid(iF p aa=⟨ac++ [((t':Int),s.next t')],1,t',s.next t',(jM p s t').2⟩):=by
         unfold Hid;rw [HF.out,HD.out];exact mT _ _ _ _ _ _ HK.out(by simpa using hstp)
        clear hstp;obtain⟨lg,lc,rfl,l1,l2⟩:=ad.out.last;obtain⟨aS,al,ai,ak,ah,aj,ag⟩:=ad.out.vcells;have aR:Hid(ac.length<1048576):=by unfold Hid;rw [aw.out];omega
        generalize aH:ac.length=L at*;have HGL:=hZ aH;clear aH;have hL:(L:Int)<1048576:=by have:=aR.out;omega
        go_wp2_with fail
        go_region
        have ap:w7.grownBy(w7.alloc(.cells #[.int .i64 t', .int .i64(s.next t')]76)).drew none:=ir(ij(il _ _));have az:(w7.alloc(.cells #[.int .i64 t', .int .i64(s.next t')]76)).drew.heap[w7.heap.size]?=some(.cells #[.int .i64 t', .int .i64(s.next t')]76(0,0)):=heap_alloc_new w7 _;generalize(w7.alloc(.cells #[.int .i64 t', .int .i64(s.next t')]76)).drew=w8 at ap az ⊢;have ay:=hZ(ad.out.grown ap);have z0:w8.cell?⟨w7.heap.size,0,none⟩=some(.int .i64 t'):=by simp [World.cell?,az]
        have z1:w8.cell?⟨w7.heap.size,1,none⟩=some(.int .i64(s.next t')):=by simp [World.cell?,az]
        clear ap az aS al ai ak ah aj ag l1 l2 ad;obtain⟨_,al,ai,ak,ah,aj,ag⟩:=ay.out.vcells;go_wp2
        go_ret;rw [HW.out];exact⟨b,ab,rb,_,rfl,ay.out.verdict 1 t'(s.next t')⟩
       ·have aV:Hid(iF p aa=ja p(aa.drop(k+1))((k+1:Nat):Int)(jM p s t').2(ac++ [((t':Int),s.next t')])):=by
         unfold Hid;rw [HF.out,HD.out,oe _ _ _ _ _ _ HK.out(by simpa using hstp)];simp
        have a6:=hZ(aq.out.step HV.out ax aN.out);have a5:=hZ(aE.out.step p t');have a4:Hid((ac++ [((t':Int),s.next t')]).length=k+1):=by unfold Hid;rw [List.length_append,aw.out];rfl
        clear hstp;go_wp2_with fail
        go_roundw
        case rel=>exact⟨k+1,_,_,a1,by omega,by go_num,a4,ad,a6,a5,aV⟩
        case measure=>simp [intOf];omega
     ·have hb1':(p.length:Int)<=t:=by omega
      have HW:Hid(iF p aa=⟨ac,2,0,k,s⟩):=by
       unfold Hid;rw [HF.out,HD.out];exact ku _ _ _ _ _ _(by simp [nh,jA,a3])
      go_wp2_with fail
      go_ret;rw [HW.out];exact⟨b,ab,rb,st,rfl,HR.out.verdict 2 0 k⟩
    ·have hb0':t<0:=by omega
     have HW:Hid(iF p aa=⟨ac,2,0,k,s⟩):=by
      unfold Hid;rw [HF.out,HD.out];exact ku _ _ _ _ _ _(by simp [nh,jA,aQ])
     go_wp2_with fail
     go_ret;rw [HW.out];exact⟨b,ab,rb,st,rfl,HR.out.verdict 2 0 k⟩
   ·have HW:Hid(iF p aa=⟨ac,jN p s,0,0,s⟩):=by
     unfold Hid;rw [HF.out,List.drop_eq_nil_of_le(by omega)];rfl
    have aW:(aa.length:Int)<=(k:Int):=by omega
    clear HF aw HC;go_wp2_with fail
    go_loopw [11,12,13](fun dv rv tv w'=>∃ t d r:Nat,t<=p.length/\dv= .int .i64 d/\rv= .int .i64 r/\tv= .int .i64 t/\d<=t/\r<=t/\Hid(d=t↔∀ j,j<t->jO p s j=true)/\Hid(r=0↔∀ j,j<t->jB p s j=false)/\
     Hid(RunAt w w' b ab rb p.length(.slice ao p.length am)st s ac 0 0 0))(fun _ _ tv _=>p.length - (intOf tv).toNat)
    case atStart=>exact⟨0,0,0,Nat.zero_le _,rfl,rfl,rfl,Nat.le_refl _,Nat.le_refl _,⟨fun _ j h=>absurd h(by omega),fun _=>rfl⟩,⟨fun _ j h=>absurd h(by omega),fun _=>rfl⟩,HR⟩
    case round=>
     clear HR;obtain⟨t,d,r,ht,rfl,rfl,rfl,hd,hr,HD,af,HR⟩:=hrel;obtain⟨w6,aM⟩:∃ w6,w6=wr:=⟨_,rfl⟩;rw [<-aM]at HR ⊢;clear aM;by_cases ar:t<p.length
     ·have t0:(0:Int)<=(t:Int):=by omega
      have t1:(t:Int)<p.length:=by omega
      have d1:(d:Int)<=4:=by omega
      have r1:(r:Int)<=4:=by omega
      go_wp2_with fail
      refine(FQ HV.out HP.out HR.out aq.out ar).mono ?_;rintro e w7⟨rfl,aG⟩;have ad:=hZ(HR.out.grown aG);clear aG HR;go_wp2_with fail
      refine(zU HV.out HP.out ad.out aq.out aE.out ar).mono ?_;rintro e w8⟨rfl,ap⟩;have ay:=hZ(ad.out.grown ap);clear ap ad;have aT:Hid((if jO p s t=true then d+1 else d)=t+1↔∀ j,j<t+1->jO p s j=true):=by
       unfold Hid;cases e:jO p s t
       ·simp only [Bool.false_eq_true,if_false];constructor
        ·intro h;omega
        ·intro h;have:=h t(by omega);rw [e]at this;cases this
       ·simp only [if_true];constructor
        ·intro h j hj;by_cases aD:j=t
         ·rw [aD];exact e
         ·exact HD.out.1(by omega)j(by omega)
        ·intro h;have:=HD.out.2(fun j hj=>h j(by omega));omega
      have aZ:Hid((if jB p s t=true then r+1 else r)=0↔∀ j,j<t+1->jB p s j=false):=by
       unfold Hid;cases e:jB p s t
       ·simp only [Bool.false_eq_true,if_false];constructor
        ·intro h j hj;by_cases aD:j=t
         ·rw [aD];exact e
         ·exact af.out.1 h j(by omega)
        ·intro h;exact af.out.2(fun j hj=>h j(by omega))
       ·simp only [if_true];constructor
        ·intro h;omega
        ·intro h;have:=h t(by omega);rw [e]at this;cases this
      clear HD af;generalize jO p s t=db at*;generalize jB p s t=rb' at*;cases db<;>cases rb'
      all_goals
       go_wp2_with fail
       go_roundw
       case rel=>exact⟨t+1,_,_,by omega,by go_num,by go_num,by go_num,by simp<;>omega,by simp<;>omega,aT,aZ,ay⟩
       case measure=>simp [intOf];omega
     ·have t1:(p.length:Int)<=(t:Int):=by omega
      obtain⟨_,al,ai,ak,ah,aj,ag⟩:=HR.out.vcells;obtain rfl:t=p.length:=by omega
      by_cases au:r=0
      ·have aC:=af.out.1 au;have HE:=hZ(tA aC);subst au;by_cases an:d=p.length
       ·have aO:=HD.out.1 an;have aY:Hid(jN p s=3):=by
         unfold Hid;rw [HE.out,pi,if_pos];rw [List.all_eq_true];intro j hj;exact aO j(by simpa using hj)
        have aP:((d:Int)==(p.length:Int))=true:=by simp;omega
        clear aC aO HD af HE an t1;go_wp2_with fail
        go_ret;rw [HW.out,aY.out];exact⟨b,ab,rb,st,rfl,((HR.out.kind 5).kind 4).kind 3⟩
       ·have aU:Hid(jN p s=4):=by
         unfold Hid;rw [HE.out,pi,if_neg];intro h;rw [List.all_eq_true]at h;exact an(HD.out.2(fun j hj=>h j(by simpa using hj)))
        have aP:((d:Int)==(p.length:Int))=false:=by simp;omega
        clear aC HD af HE an t1;go_wp2_with fail
        go_ret;rw [HW.out,aU.out];exact⟨b,ab,rb,st,rfl,(HR.out.kind 5).kind 4⟩
      ·obtain⟨j,hj,aA⟩:∃ j,j<p.length/\jB p s j=true:=by
        by_cases aJ:∃ j,j<p.length/\jB p s j=true
        ·exact aJ
        ·exfalso
         refine au(af.out.2(fun j hj=> ?_));cases e:jB p s j
         ·rfl
         ·exact absurd⟨j,hj,e⟩aJ
       have aX:=hZ(rQ hj aA);have an:d≠p.length:=fun e=>by
        have:=HD.out.1 e j hj;simp [jB,this]at aA
       have aP:((d:Int)==(p.length:Int))=false:=by simp;omega
       have hrb:((r:Int)==0)=false:=by simp;omega
       clear HD af an au hj aA t1;go_wp2_with fail
       go_ret;rw [HW.out,aX.out];exact⟨b,ab,rb,st,rfl,HR.out.kind 5⟩
end
section
open Go.RowKit
attribute [local go_sem] Go.World.cell?_alloc_some
theorem RunAt.regRow {w0 w:World} {b ab rb n:Nat} {ps st:Value} {s:St} {acc:List(Int × Int)} {k th a:Int}(h:RunAt w0 w b ab rb n ps st s acc k th a)(hn:n<=4):
  w.ownsRow w0.heap.size 28 4(.slice(some⟨rb,0,none⟩)n n)n(jm n s):=
 ⟨kq n s,Or.inr⟨rb,n,(jm n s).toArray,rfl,h.rb0,h.regs,Nat.le_refl _,by unfold maxLen;omega,by simp [kq],by rw [<-kq n s];simp⟩⟩
theorem wY(p:List(List Ins))(s:List Int)(pv sv:Value)(w:World)(hP:ProgAt w pv p)(hI:IntsAt w.heap.size w sv s)(an:p.length<=5864062014634)(ah:∀ c∈p,c.length<=4398046510976):
  Calls Tryz.prog 22 #[pv,sv]w(Replayed p s w):=by
 have HP:=hZ hP;have HI:=hZ hI;have ap:=hZ ah;obtain⟨ao,ad,rfl⟩:=hP.form;obtain⟨so,sc,rfl⟩:=hI.form;clear hP hI ah;go_enter Tryz.func22,Tryz.ntmps22
 go_wp2_with fail
 have af:∀ a b,w.grownBy((w.alloc a).alloc b)none:=fun a b=>ij(ij(il _ _))
 refine(mE p _ _(HP.out.pres(ie(af _ _)))an ap.out).mono ?_;rintro e w1⟨rfl,ac⟩;have aa:Hid(w.grownBy w1 none):=ic(af _ _)ac;have hsz1:w.heap.size+2<=w1.heap.size:=by have:=ac.size;simpa using this
 have ag:w1.heap[w.heap.size]?=some(.cells #[.slice ao p.length ad]37(0,0)):=by
  rw [ac.block w.heap.size(by simp;omega)(by simp),Below.heap_alloc _ _ _(by simp)];exact heap_alloc_new w _
 have ae:w1.heap[w.heap.size+1]?=some(.cells #[.int .i64 0, .int .i64 0, .int .i64 0, .slice none 0 0, .int .i64 0, .int .i64 0, .int .i64 0, .int .i64 0, .slice none 0 0]31(0,0)):=by
  rw [ac.block(w.heap.size+1)(by simp)(by simp)];have:=heap_alloc_new(w.alloc(.cells #[.slice ao p.length ad]37))(.cells #[.int .i64 0, .int .i64 0, .int .i64 0, .slice none 0 0, .int .i64 0, .int .i64 0, .int .i64 0, .int .i64 0, .slice none 0 0]31);simpa using this
 have am:=hZ ae;have c0:w1.cell?⟨w.heap.size,0,none⟩=some(.slice ao p.length ad):=by simp [World.cell?,ag]
 clear ag ac;obtain⟨r0,r1,r2,r3,r4,r5,r6,r7,r8,rf⟩:=kA ae;have f0:=rf 0;have f1:=rf 1;have f2:=rf 2;have f3:=rf 3;have f4:=rf 4;have f5:=rf 5;have f6:=rf 6;have f7:=rf 7;have f8:=rf 8;clear rf ae;by_cases hv:iR p=true
 ·have e0:je p=0:=by simp [je,hv]
  have HV:=hZ hv;have hlen:=ju hv;rw [e0];clear e0 hv;by_cases h5:s.length<=500
  ·have ak:(s.length:Int)<=500:=by omega
   have H0:Hid(iz p s=0):=by unfold Hid iz;simp [HV.out,h5]
   go_wp2_with fail
   have aj:=hZ(pV w1 ao ad p _ s HV.out(HP.out.pres(ie aa.out))((HI.out.pres(ie aa.out)).mono aa.out.size)(by omega));refine(nC aj).mono ?_;clear aj r0 r1 r2 r3 r4 r5 r6 r7 r8 f0 f1 f2 f3 f4 f5 f6 f7 f8;rintro e w2⟨b,ab,rb,st,rfl,hR⟩;obtain⟨x1,x2,x3,rfl⟩:=iq hR.row;have HR:=hZ hR;have al:Hid(w.grownBy w2 none):=ic aa.out hR.frame;have ai:w2.heap[w.heap.size+1]?=some(.cells #[.int .i64 0, .int .i64 0, .int .i64 0, .slice none 0 0, .int .i64 0, .int .i64 0, .int .i64 0, .int .i64 0, .slice none 0 0]31(0,0)):=by
    rw [hR.frame.block _(by omega)(by simp)];exact am.out
   obtain⟨c10,c11,c12,c13,_,_,_⟩:=hR.vcells;have v0:=hR.var(l:=0)(by omega);have v1:=hR.var(l:=1)(by omega);have v2:=hR.var(l:=2)(by omega);have v3:=hR.var(l:=3)(by omega);have c2:w2.cell?⟨b,2,none⟩=some(.slice(some⟨rb,0,none⟩)p.length p.length):=(hR.cell 2).1;obtain⟨r0,r1,r2,r3,r4,r5,r6,r7,r8,rf⟩:=kA ai;have f0:=rf 0;have f1:=rf 1;have f2:=rf 2;have f3:=rf 3;have f4:=rf 4;have f5:=rf 5;have f6:=rf 6;have f7:=rf 7;have f8:=rf 8;have hab:=hR.ab0;have habb:=hR.abb;have hbw:b≠w.heap.size+1:=by omega
   have hbw':w.heap.size+1≠b:=by omega
   clear rf ai hR c0;generalize hO:iF p s=o at*;have aq:=hZ hO;clear hO;go_wp2_with fail
   go_region
   go_wp2
   refine bodyPost_ret(v:= .tuple #[.agg #[.int .i64 o.kind, .int .i64 o.thread, .int .i64 o.at_, .slice x1 x2 x3, .int .i64(o.st.vars 0), .int .i64(o.st.vars 1), .int .i64(o.st.vars 2), .int .i64(o.st.vars 3), .slice(some⟨rb,0,none⟩)p.length p.length], .int .i64 0]) ?_ rfl⟨?_,Or.inl⟨H0.out,_,rfl, ?_⟩⟩
   ·simp [results,Tryz.results22,go_sem,r0,r1,r2,r3,r4,r5,r6,r7,r8]
   ·refine ir ?_;iterate 9 refine iC ?_(by omega)
    exact al.out
   ·rw [aq.out];refine⟨_,_,rfl, ?_, ?_⟩
    ·refine iN(base:=b+1) ?_(by omega);refine iA(r:=none) ?_(ir(il _ _))(fun _ e=>by cases e);iterate 9 refine ownsRow_setCell_below ?_(by simp;omega)_
     exact HR.out.row
    ·refine iN(base:=w1.heap.size) ?_(by omega);refine iA(r:=none) ?_(ir(il _ _))(fun _ e=>by cases e);iterate 9 refine ownsRow_setCell_below ?_(by simp;omega)_
     exact HR.out.regRow(by omega)
  ·have ak:(500:Int)<s.length:=by omega
   have H0:Hid(iz p s=2):=by unfold Hid iz;simp [HV.out,h5]
   go_wp2_with fail
   refine bodyPost_ret(v:= .tuple #[.agg #[.int .i64 0, .int .i64 0, .int .i64 0, .slice none 0 0, .int .i64 0, .int .i64 0, .int .i64 0, .int .i64 0, .slice none 0 0], .int .i64 2]) ?_ rfl⟨?_,Or.inr⟨by rw [H0.out];decide,by rw [H0.out]⟩⟩
   ·simp [results,Tryz.results22,go_sem,r0,r1,r2,r3,r4,r5,r6,r7,r8]
   ·iterate 9 refine iC ?_(by omega)
    exact aa.out
 ·have e0:je p=1:=by simp [je,hv]
  have H0:Hid(iz p s=1):=by unfold Hid iz;simp [hv]
  rw [e0];clear e0 hv;go_wp2_with fail
  refine bodyPost_ret(v:= .tuple #[.agg #[.int .i64 0, .int .i64 0, .int .i64 0, .slice none 0 0, .int .i64 0, .int .i64 0, .int .i64 0, .int .i64 0, .slice none 0 0], .int .i64 1]) ?_ rfl⟨?_,Or.inr⟨by rw [H0.out];decide,by rw [H0.out]⟩⟩
  ·simp [results,Tryz.results22,go_sem,r0,r1,r2,r3,r4,r5,r6,r7,r8]
  ·iterate 9 refine iC ?_(by omega)
   exact aa.out
end
section
open Go.RowKit
theorem sE(a b c d:Int)(w:World):(Op.equalIn 10000 28(.agg #[.int .i64 a, .int .i64 b, .int .i64 c, .int .i64 d])(.agg #[.int .i64 a, .int .i64 b, .int .i64 c, .int .i64 d])).run Tryz.prog w= .ok true w:=by
 obtain⟨i0,aa,hz0,ab,hz2⟩:=info_parts kt;have hc:Tryz.prog.cellsOf 3=1:=by simp [Program.cellsOf,aa,ab]
 have hk:Tryz.prog.plainKey 3=true:=by simp [Program.plainKey,Tryz.underlying3]
 rw [show(10000:Nat)=9999+1 from rfl,run_equalIn_array w 9999 _ _(n:=4)(e:=3)(by first | exact Tryz.underlying28 | kernel_rfl)aa,hc];have he:∀ (d:Nat)(v:Int),(Op.equalIn(d+1)3(.int .i64 v)(.int .i64 v)).run Tryz.prog w= .ok true w:=fun d v=>by
  rw [run_equalIn_int w d _ _ .i64 v v Tryz.underlying3];simp
 have hq:=he 9998;simp only [Nat.reduceAdd]at hq;have p0:=run_part_plain w hk(xs:= #[.int .i64 a, .int .i64 b, .int .i64 c, .int .i64 d])(off:=0)rfl;have p1:=run_part_plain w hk(xs:= #[.int .i64 a, .int .i64 b, .int .i64 c, .int .i64 d])(off:=1)rfl;have p2:=run_part_plain w hk(xs:= #[.int .i64 a, .int .i64 b, .int .i64 c, .int .i64 d])(off:=2)rfl;have p3:=run_part_plain w hk(xs:= #[.int .i64 a, .int .i64 b, .int .i64 c, .int .i64 d])(off:=3)rfl;simp [List.range,List.range.loop,Op.eqItems,Sem.run_bind,p0,p1,p2,p3,hq,Result.andThen_ok]
end
section
open Go.RowKit
attribute [local go_sem] Go.World.cell?_alloc_some sE
theorem rs(n:Int)(w:World):Calls Tryz.prog 23 #[.int .i64 n]w fun e w'=>e= .returned(.int .i64 n)/\w'=w:=by
 go_enter Tryz.func23,Tryz.ntmps23
 go_wp2_with fail
 go_ret;exact⟨rfl,rfl⟩
def ResV(p:List(List Ins))(s:List Int)(B:Nat)(w:World)(rv:Value)(c:Int):Prop:=
 ∃ k t a v0 v1 v2 v3 x1 x3 y1 y3 m q,rv= .agg #[.int .i64 k, .int .i64 t, .int .i64 a, .slice x1 m x3, .int .i64 v0, .int .i64 v1, .int .i64 v2, .int .i64 v3, .slice y1 q y3]/\c=iz p s/\
  ((c=0/\k=(iF p s).kind/\t=(iF p s).thread/\a=(iF p s).at_/\v0=(iF p s).st.vars 0/\v1=(iF p s).st.vars 1/\v2=(iF p s).st.vars 2/\v3=(iF p s).st.vars 3/\m=(iF p s).steps.length/\q=p.length/\
   w.ownsRow B 76 2(.slice x1 m x3)(iF p s).steps.length(iO(iF p s).steps)/\w.ownsRow B 28 4(.slice y1 q y3)p.length(jm p.length(iF p s).st))\/
   (c≠0/\k=0/\t=0/\a=0/\v0=0/\v1=0/\v2=0/\v3=0/\m=0/\q=0/\x1=none/\x3=0/\y1=none/\y3=0))
theorem uW {w:World} {base:Nat} {e:TypeId} {aa:Nat} {ao:Option Addr} {m c n:Nat} {xs:List Value}(h:w.ownsRow base e aa(.slice ao m c)n xs):m=n:=by
 rcases h.2 with⟨e1,e2⟩ | ⟨g',cap',cur,hv,_⟩
 ·simp only [Value.slice.injEq]at e1;rw [e1.2.1];first | exact e2.symm | omega
 ·simp only [Value.slice.injEq]at hv;exact hv.2.1
theorem Replayed.form {p:List(List Ins)} {s:List Int} {w w':World} {e:Ending}(h:Replayed p s w e w'):w.grownBy w' none/\∃ rv c,e= .returned(.tuple #[rv, .int .i64 c])/\ResV p s w.heap.size w' rv c:=by
 obtain⟨hg,h⟩:=h;refine⟨hg, ?_⟩;rcases h with⟨h0,rv,rfl,sv,gv,rfl,h1,h2⟩ | ⟨h0,rfl⟩
 ·obtain⟨x1,m,x3,rfl⟩:=iq h1;obtain⟨y1,q,y3,rfl⟩:=iq h2;exact⟨_,_,rfl,_,_,_,_,_,_,_,_,_,_,_,_,_,rfl,h0.symm,Or.inl⟨rfl,rfl,rfl,rfl,rfl,rfl,rfl,rfl,uW h1,uW h2,h1,h2⟩⟩
 ·exact⟨_,_,rfl,_,_,_,_,_,_,_,_,_,_,_,_,_,rfl,rfl,Or.inr⟨h0,rfl,rfl,rfl,rfl,rfl,rfl,rfl,rfl,rfl,rfl,rfl,rfl,rfl⟩⟩
theorem ResV.same {p:List(List Ins)} {s:List Int} {B B':Nat} {w w':World} {rv ab:Value} {c c':Int}(h:ResV p s B w rv c)(h':ResV p s B' w' ab c'):
  c=c'/\∃ k t a v0 v1 v2 v3 x1 x3 y1 y3 m q x1' x3' y1' y3',rv= .agg #[.int .i64 k, .int .i64 t, .int .i64 a, .slice x1 m x3, .int .i64 v0, .int .i64 v1, .int .i64 v2, .int .i64 v3, .slice y1 q y3]/\
   ab= .agg #[.int .i64 k, .int .i64 t, .int .i64 a, .slice x1' m x3', .int .i64 v0, .int .i64 v1, .int .i64 v2, .int .i64 v3, .slice y1' q y3']:=by
 obtain⟨k,t,a,v0,v1,v2,v3,x1,x3,y1,y3,m,q,rfl,hc,h⟩:=h;obtain⟨k',t',a',v0',v1',v2',v3',x1',x3',y1',y3',m',q',rfl,aa,h'⟩:=h';refine⟨hc.trans aa.symm, ?_⟩;rcases h with⟨h0,rfl,rfl,rfl,rfl,rfl,rfl,rfl,rfl,rfl,_⟩ | ⟨h0,rfl,rfl,rfl,rfl,rfl,rfl,rfl,rfl,rfl,_⟩
 ·rcases h' with⟨h0',rfl,rfl,rfl,rfl,rfl,rfl,rfl,rfl,rfl,_⟩ | ⟨h0',_⟩
  ·exact⟨_,_,_,_,_,_,_,_,_,_,_,_,_,_,_,_,_,rfl,rfl⟩
  ·exact absurd(aa.trans(hc.symm.trans h0))h0'
 ·rcases h' with⟨h0',_⟩ | ⟨h0',rfl,rfl,rfl,rfl,rfl,rfl,rfl,rfl,rfl,_⟩
  ·exact absurd(hc.trans(aa.symm.trans h0'))h0
  ·exact⟨_,_,_,_,_,_,_,_,_,_,_,_,_,_,_,_,_,rfl,rfl⟩
end
section
theorem oC(p:List(List Ins)):∀ (l:List Int)(i:Int)(s:St)(acc:List(Int × Int)),∃ m,m<=l.length/\(ja p l i s acc).steps.map(·.1)=acc.map(·.1)++l.take m/\acc.length+m=(ja p l i s acc).steps.length/\∃ more,(ja p l i s acc).steps=acc++more
 | [],i,s,acc=>⟨0,Nat.le_refl _,by simp [pZ],by simp [pZ], [],by simp [pZ]⟩
 | t::r,i,s,acc=>by
  by_cases h1:nh p s t=true
  ·by_cases h2:(jM p s t.toNat).1=true
   ·rw [oe p t r i s acc h1 h2];obtain⟨m,q1,q2,q3,more,q4⟩:=oC p r(i+1)(jM p s t.toNat).2(acc++ [(t,s.next t.toNat)]);refine⟨m+1,by simp;omega,by rw [q2];simp,by rw [<-q3];simp;omega,(t,s.next t.toNat)::more,by rw [q4];simp⟩
   ·have h3:(jM p s t.toNat).1=false:=by simpa using h2
    rw [mT p t r i s acc h1 h3];exact⟨1,by simp,by simp,by simp,_,rfl⟩
  ·have h3:nh p s t=false:=by simpa using h1
   rw [ku p t r i s acc h3];exact⟨0,by simp,by simp,by simp, [],by simp⟩
end
section
open Go.RowKit
attribute [local go_sem] Go.World.cell?_alloc_some
def hc(iv wv:Value)(n:Int)(ov mv:Value):Array Value:= #[iv,wv, .slice none 0 0, .slice none 0 0, .slice none 0 0, .int .i64 n,ov,mv, .slice none 0 0, .slice none 0 0, .slice none 0 0, .slice none 0 0, .slice none 0 0, .slice none 0 0, .slice none 0 0, .slice none 0 0]
def HAt(w:World)(b:Nat)(iv wv:Value)(n:Int)(ov mv:Value):Prop:=w.heap[b]?=some(.cells(hc iv wv n ov mv)45(0,0))
theorem HAt.cell {w:World} {b:Nat} {iv wv:Value} {n:Int} {ov mv:Value}(h:HAt w b iv wv n ov mv)(o:Nat):w.cell?⟨b,o,none⟩=(hc iv wv n ov mv)[o]?:=by
 unfold HAt at h;simp [World.cell?,h]
theorem HAt.frozen {w:World} {b:Nat} {iv wv:Value} {n:Int} {ov mv:Value}(h:HAt w b iv wv n ov mv)(o:Nat):w.frozen?⟨b,o,none⟩=false:=by
 unfold HAt at h;simp [World.frozen?,h]
theorem HAt.lt {w:World} {b:Nat} {iv wv:Value} {n:Int} {ov mv:Value}(h:HAt w b iv wv n ov mv):b<w.heap.size:=(Array.getElem?_eq_some_iff.1 h).1
theorem HAt.grown {w w':World} {b:Nat} {iv wv:Value} {n:Int} {ov mv:Value} {r:Option Nat}(h:HAt w b iv wv n ov mv)(hg:w.grownBy w' r)(hr:r≠some b):HAt w' b iv wv n ov mv:=by
 have hl:=h.lt;unfold HAt at*;rw [hg.block b hl(fun e=>hr e.symm)];exact h
theorem HAt.setOther {w:World} {b g o:Nat} {u:Value} {iv wv:Value} {n:Int} {ov mv:Value}(h:HAt w b iv wv n ov mv)(hg:b≠g):HAt(w.setCell⟨g,o,none⟩u)b iv wv n ov mv:=by
 unfold HAt at*;rw [Below.heap_setCell _ _ _ _(by simpa using hg)];exact h
theorem HAt.set6 {w:World} {b:Nat} {iv wv:Value} {n:Int} {ov mv:Value}(h:HAt w b iv wv n ov mv)(u:Value):HAt(w.setCell⟨b,6,none⟩u)b iv wv n u mv:=by
 unfold HAt at*;rw [heap_setCell_same w b 6 _ _ _ h];rfl
theorem HAt.set7 {w:World} {b:Nat} {iv wv:Value} {n:Int} {ov mv:Value}(h:HAt w b iv wv n ov mv)(u:Value):HAt(w.setCell⟨b,7,none⟩u)b iv wv n ov u:=by
 unfold HAt at*;rw [heap_setCell_same w b 7 _ _ _ h];rfl
theorem tt(l m:List Int)(v u:Value)(w:World)(hI:IntsAt w.heap.size w v l)(hJ:IntsAt w.heap.size w u m)(hln:l.length<=9223372036854775806):
  Calls Tryz.prog 30 #[v,u]w fun e w'=>e= .returned(.bool(l==m))/\jr w' w:=by
 obtain⟨ao,cap,rfl,hcap,hc⟩:=hI;obtain⟨bo,dap,rfl,hdap,hd⟩:=hJ;by_cases aa:l.length=m.length
 ·have HC:=hZ hc;have HD:=hZ hd;clear hc hd;have ai:(l.length:Int)=m.length:=by omega
  have ak:((l.length:Int) !=(m.length:Int))=false:=by simp;omega
  have af:=hZ aa;go_enter Tryz.func30,Tryz.ntmps30
  clear aa ai;go_wp2_with fail
  go_loopw [5](fun i w'=>∃ k:Nat,k<=l.length/\i= .int .i64 k/\Hid(jr w' w)/\Hid(l.take k=m.take k))(fun i _=>l.length - (intOf i).toNat)
  case atStart=>exact⟨0,Nat.zero_le _,rfl,hZ(jp _),by simp [Hid]⟩
  case round=>
   obtain⟨k,hk,rfl,HK,HA⟩:=hrel;obtain⟨w5,aj⟩:∃ w5,w5=wr:=⟨_,rfl⟩;subst aj;by_cases ag:k<l.length
   ·have ac:k<m.length:=by have:=af.out;omega
    obtain⟨g,o,rfl,_,c0⟩:=HC.out k ag;obtain⟨g2,o2,rfl,_,c1⟩:=HD.out k ac;have cL:∀ a,w5.cell? a=w.cell? a:=fun a=>by simp [World.cell?,HK.out.1]
    have d0:w5.cell?⟨g,o+k,none⟩=some(.int .i64 l[k]):=by rw [cL];exact c0
    have d1:w5.cell?⟨g2,o2+k,none⟩=some(.int .i64 m[k]):=by rw [cL];exact c1
    have hk0:(0:Int)<=(k:Int):=by omega
    have hk1:(k:Int)<l.length:=by omega
    have hk2:(k:Int)<m.length:=by omega
    have ae:Hid(l.take(k+1)=l.take k++ [l[k]]):=List.take_succ_eq_append_getElem ag;have ad:Hid(m.take(k+1)=m.take k++ [m[k]]):=List.take_succ_eq_append_getElem ac;clear cL c0 c1;by_cases ab:l[k]=m[k]
    ·have hq:(l[k] !=m[k])=false:=by simpa using ab
     have ah:Hid(l.take(k+1)=m.take(k+1)):=by unfold Hid;rw [ae.out,ad.out,HA.out,ab]
     clear ab ae ad;generalize l[k]=x at*;generalize m[k]=y at*;go_wp2_with fail
     go_quiet(fail)
     go_wp2_with fail
     go_roundw
     case rel=>exact⟨k+1,by omega,by go_num,hZ(jR HK.out _),ah⟩
     case measure=>simp [intOf];omega
    ·have hq:(l[k] !=m[k])=true:=by simpa using ab
     have HE:Hid((l==m)=false):=by
      unfold Hid;simp only [beq_eq_false_iff_ne];intro e;apply ab;simp [e]
     clear ab ae ad;generalize l[k]=x at*;generalize m[k]=y at*;go_wp2_with fail
     go_quiet(fail)
     go_wp2_with fail
     go_ret;exact⟨by rw [HE.out];rfl,jR HK.out _⟩
   ·have HE:Hid((l==m)=true):=by
     unfold Hid;have h1:=HA.out;rw [List.take_of_length_le(by omega),List.take_of_length_le(by have:=af.out;omega)]at h1;simpa using h1
    have q2:(l.length:Int)<=(k:Int):=by omega
    go_wp2_with fail
    go_ret;exact⟨by rw [HE.out];rfl,HK.out⟩
 ·have HE:Hid((l==m)=false):=by
   unfold Hid;simp only [beq_eq_false_iff_ne];intro e;exact aa(by rw [e])
  have ak:((l.length:Int) !=(m.length:Int))=true:=by simp;omega
  clear hc hd;go_enter Tryz.func30,Tryz.ntmps30
  go_wp2_with fail
  go_ret;exact⟨by rw [HE.out];rfl,jp _⟩
end
section
open Go.RowKit
attribute [local go_sem] Go.World.cell?_alloc_some
theorem tY {P:Program}(w:World)(t ty ab:TypeId)(hu:P.underlying t=some(.slice ab))(af:(P.info? ab).map(·.size)=some 1)(g aa ac:Nat)(sv:Value)(B:Nat)(l:List Int)(hI:IntsAt B w sv l)(cur:Array Value)(ct:TypeId)(hg:w.heap[g]?=some(.cells cur ct(0,0)))(aj:l.length<=aa)(hfit:l.length<=cur.size):
  ∃ w',(Builtin.copy_ #[t,t]ty #[.slice(some⟨g,0,none⟩)aa ac,sv]).run P w= .ok(goInt l.length)w'/\w'.heap[g]?=some(.cells(iI l++cur.toList.drop l.length).toArray ct(0,0))/\w.grownBy w'(some g):=by
 obtain⟨ao,ag,e,hcap,hc⟩:=hI;subst e;by_cases h0:l.length=0
 ·have hl:l= []:=List.length_eq_zero_iff.1 h0;subst hl;refine⟨w,run_copy_none(P:=P)w t t ty ab _ _ aa ac _ ag hu af(by simp), ?_,il _ _⟩;rw [hg];simp [iI]
 ·obtain⟨g',o',e',_,_⟩:=hc 0(by omega);subst e';have ai:∀ k(hk:k<l.length),w.cell?⟨g',o'+k,none⟩=some(.int .i64 l[k]):=by
   intro k hk;obtain⟨g2,o2,e2,_,c⟩:=hc k hk;simp only [Option.some.injEq,Addr.mk.injEq,and_true]at e2;obtain⟨rfl,rfl⟩:=e2;exact c
  have ae:Nat.min l.length aa=l.length:=Nat.min_eq_left aj;have hr:=run_copy_row(P:=P)w t t ty ab g 0 aa ac⟨g',o',none⟩l.length ag cur ct(iI l)hu af hg(by rw [jW,ae])(fun j v hj=>by
   have ah:j<l.length:=by have:=(List.getElem?_eq_some_iff.1 hj).1;rwa [jW]at this
   have ad:(⟨g',o',none⟩:Addr).add j=⟨g',o'+j,none⟩:=by unfold Addr.add;split<;>simp_all
   rw [ad,ai j ah,<-hj];simp [iI,ah])(by rw [jW];omega)(oT l)
  rw [jW]at hr;simp only [List.take_zero,List.nil_append,Nat.zero_add]at hr;exact⟨_,hr,setRow_heap w g cur _ ct(0,0)hg,⟨rfl,rfl,rfl,by simp,fun k hk hr=>setRow_other w g k _(fun e=>hr(by rw [e]))⟩⟩
def ink:Value:= .int .i64(-77000000)
def kx(l:List Int):Array Value:=(iI l++ [ink,ink]).toArray
theorem uS:((Tryz.prog.info? 39).map fun i=>(i.zero,i.size,i.bytes))=some(some(.slice none 0 0),1,24):=by kernel_rfl
theorem EF(l:List Int)(cur:Array Value)(hc:cur.size=l.length+2):((iI l++cur.toList.drop l.length).toArray.setIfInBounds l.length ink).setIfInBounds(l.length+1)ink=kx l:=by
 obtain⟨c⟩:=cur;simp at hc;obtain⟨x,y,h1⟩:∃ x y,c.drop l.length= [x,y]:=⟨c[l.length]'(by omega),c[l.length+1]'(by omega),by
  rw [List.drop_eq_getElem_cons(by omega),List.drop_eq_getElem_cons(by omega),List.drop_eq_nil_of_le(by omega)]⟩
 have e1:∀ (a:List Value)(x y z:Value)(k:Nat),k=a.length->(a++ [x,y]).set k z=a++ [z,y]:=by
  intro a x y z k hk;subst hk;rw [List.set_append];simp
 have e2:∀ (a:List Value)(x y z:Value)(k:Nat),k=a.length->(a++ [x,y]).set(k+1)z=a++ [x,z]:=by
  intro a x y z k hk;subst hk;rw [List.set_append,if_neg(by omega)];simp
 have el:=(jW l).symm;simp only [h1,List.setIfInBounds_toArray,kx];rw [e1 _ _ _ _ _ el,e2 _ _ _ _ _ el]
end
section
open Go.RowKit
attribute [local go_sem] Go.World.cell?_alloc_some
theorem xX(l:List Int):(kx l).size=l.length+2:=by simp [kx,jW]
theorem zq(l:List Int)(k:Nat)(hk:k<l.length):(kx l)[k]?=some(.int .i64 l[k]):=by
 simp [kx,iI,List.getElem?_append,hk]
theorem vK(l:List Int):(kx l)[l.length]?=some ink:=by
 simp [kx,jW]
theorem vS(l:List Int):(kx l)[l.length+1]?=some ink:=by
 simp [kx,jW]
theorem l9 {w:World} {g:Nat} {l:List Int}(h:w.heap[g]?=some(.cells(kx l)3(0,0))):IntsAt w.heap.size w(.slice(some⟨g,0,none⟩)l.length(l.length+2))l:=by
 refine⟨some⟨g,0,none⟩,l.length+2,rfl,by omega,fun k hk=>⟨g,0,rfl,(Array.getElem?_eq_some_iff.1 h).1, ?_⟩⟩;rw [Nat.zero_add];simp only [World.cell?,h];exact zq l k hk
def Turned(w:World)(b g:Nat)(w':World):Prop:=w'.os=w.os/\w'.tape=w.tape/\w'.output=w.output/\w.heap.size<=w'.heap.size/\∀ k,k<w.heap.size->k≠b->k≠g->w'.heap[k]?=w.heap[k]?
theorem Turned.refl(w:World)(b g:Nat):Turned w b g w:=⟨rfl,rfl,rfl,Nat.le_refl _,fun _ _ _ _=>rfl⟩
theorem Turned.below {w w1 w2:World} {b g:Nat}(h:Turned w b g w1)(hb:Below w1.heap.size w1 w2):Turned w b g w2:=
 ⟨hb.os.trans h.1,hb.tape.trans h.2.1,hb.output.trans h.2.2.1,Nat.le_trans h.2.2.2.1 hb.size,fun k hk h1 h2=>by rw [hb.block k(Nat.lt_of_lt_of_le hk h.2.2.2.1)];exact h.2.2.2.2 k hk h1 h2⟩
theorem Turned.set {w w1:World} {b g c o:Nat} {v:Value}(h:Turned w b g w1)(hc:c=b\/c=g):Turned w b g(w1.setCell⟨c,o,none⟩v):=
 ⟨h.1,h.2.1,h.2.2.1,by simpa using h.2.2.2.1,fun k hk h1 h2=>by rw [Below.heap_setCell _ _ _ _(by rcases hc with rfl | rfl<;>simpa using by assumption)];exact h.2.2.2.2 k hk h1 h2⟩
theorem Turned.like {w w1 w2:World} {b g:Nat}(h:Turned w b g w1)(hl:jr w2 w1):Turned w b g w2:=
 ⟨hl.2.1.trans h.1,hl.2.2.2.trans h.2.1,hl.2.2.1.trans h.2.2.1,by rw [hl.1];exact h.2.2.2.1,fun k hk h1 h2=>by rw [hl.1];exact h.2.2.2.2 k hk h1 h2⟩
end
section
open Go.RowKit
attribute [local go_sem] Go.World.cell?_alloc_some
section
variable {P : Program} {w : World}
theorem iD {ap:Array Oper} {am:List Oper} {o:Oper} {a:Act} {Q:Exit->Act->World->Prop}(au:o.guard=none)(s x:Operand)(t:TypeId)
  (ho:o.op= .call { callee:= .builtin .append,args:= #[s,x],argTypes:= #[t,t] })
  (base:Nat)(e:TypeId)(i:TypeInfo)(z:Value)(aa af:Nat)(ht:P.underlying t=some(.slice e))(hi:P.info? e=some i)(hz:i.zero=some z)
  (ag:i.size=aa)(an:i.bytes=af)(aq:z.cells.size=aa)(ar:0<aa)
  (v:Value)(n:Nat)(xs:List Value)(hs:a.eval s=v)(ae:w.ownsRow base e aa v n xs)
  (ad:Addr)(m c:Nat)(ab:List Value)(hx:a.eval x= .slice(some ad)m c)(hl:ab.length=m*aa)(ac:∀ j u,ab[j]?=some u->w.cell?(ad.add j)=some u)(h1:∀ u∈ab,u.oneCell'=true)
  (hm:0<m)(ao:n+m<=maxLen)(ah:(n+m)*af<=140737488355328)(ak:base<=w.heap.size)(H:Nat)(hH:w.heap.size=H)
  (h:∀ g cap w',w'.ownsRow base e aa(.slice(some⟨g,0,none⟩)(n+m)cap)(n+m)(xs++ab)->((v.ownBlock=some g/\w.grownBy w'(some g))\/(g=H/\w.grownBy w' none))->g<w'.heap.size->wpList P ap Q am(a.put o.dst(.slice(some⟨g,0,none⟩)(n+m)cap))w'):wpList P ap Q(o::am)a w:=by
 refine wpList_plain au fun K hK=> ?_
 obtain⟨g,cap,w',hr,h2,h3,h4,h5⟩:=run_append_lies(P:=P)w t o.type base e i z aa af ht hi hz ag an aq ar v n xs ae ad m c ab hl ac h1 hm ao ah ak H hH;have key:(v.ownBlock=some g/\w.grownBy w'(some g))\/(g=H/\w.grownBy w' none):=by
  have hsmall:n+m<=9223372036854775807:=by simp only [maxLen]at ao;omega
  rcases ae.2 with⟨rfl,rfl⟩ | ⟨g0,cap0,cur,rfl,hbg,hg,hnc,hcm,hcs,htake⟩
  ·rcases h4 with h4 | h4
   ·cases h4
   ·exact Or.inr⟨h4,h3⟩
  ·by_cases al:n+m<=cap0
   ·obtain⟨w2,ai,h6,h7⟩:=run_append_fits(P:=P)w base t o.type e i aa ht hi ag g0 n cap0 xs ae ad m c ab hl ac h1 al;rw [hr]at ai;simp only [Result.ok.injEq,Value.slice.injEq,Option.some.injEq,Addr.mk.injEq,true_and,and_true]at ai;obtain⟨⟨rfl,rfl⟩,rfl⟩:=ai;exact Or.inl⟨rfl,h7⟩
   ·subst ag;subst an;have aj:∀ j u,xs[j]?=some u->w.cell?((⟨g0,0,none⟩:Addr).add j)=some u:=ae.cells(g:=g0)rfl;have ai:=run_append_grow(P:=P)w t o.type e i z ht hi hz⟨g0,0,none⟩n cap0 xs ae.1 aj ad m c ab hl ac(by omega)(by omega)(growslice_fits(by omega)ah);rw [hr]at ai;simp only [Result.ok.injEq,Value.slice.injEq,Option.some.injEq,Addr.mk.injEq,true_and,and_true]at ai;obtain⟨⟨rfl,rfl⟩,rfl⟩:=ai;exact Or.inr⟨hH,⟨rfl,rfl,rfl,by simp,fun k hk _=>Below.heap_alloc w.drew _ k hk⟩⟩
 unfold Oper.wp execOp;simp only [ho,resolve,invoke,builtin,Sem.run_bind,Sem.run_pure,Result.andThen_ok,List.map_toArray,List.map_cons,List.map_nil,hs,hx,hr];exact hK _ _(h g cap w' h2 key h5)
end
def Kept(w:World)(x:Value × Int):Prop:=x.1= .slice none 0 0\/∃ g len cap,x.1= .slice(some⟨g,0,none⟩)len cap/\len<=1000/\∀ k,k<len->w.cell?⟨g,k,none⟩=some(.int .i64 x.2)
structure KeptAll(B:Nat)(w:World)(b:Nat)(ov mv:Value)(K:List(Value × Int)):Prop where
 orow:w.ownsRow B 39 1 ov K.length(K.map(·.1))
 mrow:w.ownsRow B 3 1 mv K.length(iI(K.map(·.2)))
 ob:ov.ownBlock≠some b
 mb:mv.ownBlock≠some b
 om:∀ g,ov.ownBlock=some g->mv.ownBlock≠some g
 kept:∀ x∈K,Kept w x/\∀ g,x.1.ownBlock=some g->g≠b/\ov.ownBlock≠some g/\mv.ownBlock≠some g/\g<w.heap.size
 lo:B<=b
def Hd(B:Nat)(w:World)(b:Nat)(n:Int)(K:List(Value × Int)):Prop:=∃ ov mv,HAt w b(.slice none 0 0)(.slice none 0 0)n ov mv/\KeptAll B w b ov mv K
theorem Kept.grown {w w':World} {x:Value × Int} {r:Option Nat}(h:Kept w x)(hg:w.grownBy w' r)(hr:∀ g,x.1.ownBlock=some g->r≠some g/\g<w.heap.size):Kept w' x:=by
 rcases h with h | ⟨g,len,cap,e,hl,hc⟩
 ·exact Or.inl h
 ·obtain⟨h1,h2⟩:=hr g(by rw [e];rfl);refine Or.inr⟨g,len,cap,e,hl,fun k hk=> ?_⟩;rw [World.cell?_of_block(hg.block g h2(fun e=>h1 e.symm))];exact hc k hk
theorem iW {w:World} {base:Nat} {e:TypeId} {aa:Nat} {v:Value} {n:Nat} {xs:List Value}(h:w.ownsRow base e aa v n xs):∀ g,v.ownBlock=some g->g<w.heap.size:=by
 intro g hg;rcases h.2 with⟨e1,_⟩ | ⟨g',cap,cur,hv,hb,hh,_⟩
 ·rw [e1]at hg;cases hg
 ·rw [hv]at hg;simp [Value.ownBlock]at hg;rw [<-hg];exact(Array.getElem?_eq_some_iff.1 hh).1
theorem tO {w w':World} {base:Nat} {e:TypeId} {aa:Nat} {v:Value} {n:Nat} {xs:List Value} {r:Option Nat}(h:w.ownsRow base e aa v n xs)(hg:w.grownBy w' r)(hr:∀ g,v.ownBlock=some g->r≠some g):w'.ownsRow base e aa v n xs:=by
 obtain⟨h1,h2⟩:=h;refine⟨h1, ?_⟩;rcases h2 with h2 | ⟨g,cap,cur,hv,hb,hh,rest⟩
 ·exact Or.inl h2
 ·refine Or.inr⟨g,cap,cur,hv,hb, ?_,rest⟩;rw [hg.block g(Array.getElem?_eq_some_iff.1 hh).1(fun e=>hr g(by rw [hv];rfl)e.symm)];exact hh
theorem KeptAll.grown {B:Nat} {w w':World} {b:Nat} {ov mv:Value} {K:List(Value × Int)} {r:Option Nat}(h:KeptAll B w b ov mv K)(hg:w.grownBy w' r)(ho:∀ g,r=some g->ov.ownBlock≠some g/\mv.ownBlock≠some g/\∀ x∈K,x.1.ownBlock≠some g):KeptAll B w' b ov mv K:=by
 refine⟨tO h.orow hg(fun g e1 e2=>(ho g e2).1 e1),tO h.mrow hg(fun g e1 e2=>(ho g e2).2.1 e1),h.ob,h.mb,h.om,fun x hx=> ?_,h.lo⟩;obtain⟨k1,k2⟩:=h.kept x hx;refine⟨k1.grown hg(fun g e=>⟨fun e2=>(ho g e2).2.2 x hx e,(k2 g e).2.2.2⟩),fun g e=> ?_⟩;obtain⟨h1,h2,h3,h4⟩:=k2 g e;exact⟨h1,h2,h3,Nat.lt_of_lt_of_le h4 hg.size⟩
theorem Hd.grown {B:Nat} {w w':World} {b:Nat} {n:Int} {K:List(Value × Int)}(h:Hd B w b n K)(hg:w.grownBy w' none):Hd B w' b n K:=by
 obtain⟨ov,mv,h1,h2⟩:=h;exact⟨ov,mv,h1.grown hg(by simp),h2.grown hg(fun g e=>by cases e)⟩
structure KS(W:World)(B:Nat)(w:World)(b:Nat)(n m:Int)(ov mv lv:Value)(len:Nat)(K:List(Value × Int))(M:List Int):Prop where
 h:HAt w b(.slice none 0 0)(.slice none 0 0)n ov mv
 orow:w.ownsRow B 39 1 ov K.length(K.map(·.1))
 mrow:w.ownsRow B 3 1 mv M.length(iI M)
 lrow:w.ownsRow B 3 1 lv len(List.replicate len(.int .i64 m))
 ob:ov.ownBlock≠some b
 mb:mv.ownBlock≠some b
 lb:lv.ownBlock≠some b
 om:∀ g,ov.ownBlock=some g->mv.ownBlock≠some g
 ol:∀ g,ov.ownBlock=some g->lv.ownBlock≠some g
 ml:∀ g,mv.ownBlock=some g->lv.ownBlock≠some g
 kept:∀ x∈K,Kept w x/\∀ g,x.1.ownBlock=some g->g≠b/\ov.ownBlock≠some g/\mv.ownBlock≠some g/\g<w.heap.size/\(lv.ownBlock=some g->x.2=m/\∃ l c,x.1= .slice(some⟨g,0,none⟩)l c/\l<=len)
 lo:B<=b
 ln:len<=1000
 base:W.grownBy w none
 wb:W.heap.size<=B
theorem rm {w w6:World} {o:Obj} {v:Value} {g6:Nat}(key:(v.ownBlock=some g6/\(w.alloc o).grownBy w6(some g6))\/(g6=w.heap.size+1/\(w.alloc o).grownBy w6 none)):
  ∃ r,w.grownBy w6 r/\(∀ g,r=some g->v.ownBlock=some g)/\(∀ g,g<w.heap.size->v.ownBlock≠some g->g6≠g)/\(∀ g,g<w.heap.size->v.ownBlock≠some g->w6.heap[g]?=w.heap[g]?)/\w.heap.size<=w6.heap.size:=by
 rcases key with⟨e,hg⟩ | ⟨e,hg⟩
 ·have hw:w.grownBy w6(some g6):=ic(ij(il _ _))hg;exact⟨some g6,hw,fun g e2=>(by rw [e,e2]),fun g _ h2 e3=>h2(by rw [e,e3]),fun g h1 h2=>hw.block g h1(fun e3=>h2(by rw [e,e3])),hw.size⟩
 ·have hw:w.grownBy w6 none:=ic(ij(il _ _))hg;exact⟨none,hw,fun g e2=>(by cases e2),fun g h1 _ e3=>(by omega),fun g h1 _=>hw.block g h1(by simp),hw.size⟩
theorem Kept.same {w w':World} {x:Value × Int}(h:Kept w x)(hb:∀ g,x.1.ownBlock=some g->w'.heap[g]?=w.heap[g]?):Kept w' x:=by
 rcases h with h | ⟨g,len,cap,e,hl,hc⟩
 ·exact Or.inl h
 ·refine Or.inr⟨g,len,cap,e,hl,fun k hk=> ?_⟩;rw [World.cell?_of_block(hb g(by rw [e];rfl))];exact hc k hk
theorem iJ {w w':World} {base:Nat} {e:TypeId} {aa:Nat} {v:Value} {n:Nat} {xs:List Value}(h:w.ownsRow base e aa v n xs)(hb:∀ g,v.ownBlock=some g->w'.heap[g]?=w.heap[g]?):w'.ownsRow base e aa v n xs:=by
 obtain⟨h1,h2⟩:=h;refine⟨h1, ?_⟩;rcases h2 with h2 | ⟨g,cap,cur,hv,hbb,hh,rest⟩
 ·exact Or.inl h2
 ·exact Or.inr⟨g,cap,cur,hv,hbb,by rw [hb g(by rw [hv];rfl)];exact hh,rest⟩
theorem sZ {W w w6:World} {r:Option Nat} {v:Value} {B:Nat}(h:W.grownBy w none)(hB:W.heap.size<=B)(hg:w.grownBy w6 r)(hr:∀ g,r=some g->v.ownBlock=some g)(hv:∀ g,v.ownBlock=some g->B<=g):W.grownBy w6 none:=
 ⟨hg.os.trans h.os,hg.tape.trans h.tape,hg.output.trans h.output,Nat.le_trans h.size hg.size,fun k hk _=>by
  rw [hg.block k(Nat.lt_of_lt_of_le hk h.size)(fun e=>by have:=hv k(hr k e.symm);omega)];exact h.block k hk(by simp)⟩
section
variable {W : World} {B : Nat} {w : World} {b : Nat} {n m : Int} {ov mv lv : Value} {len : Nat} {K : List (Value × Int)} {M : List Int}
theorem KS.out(s:KS W B w b n m ov mv lv len K M) {w6:World} {o:Obj} {g6 c6:Nat}(af:w6.ownsRow B 39 1(.slice(some⟨g6,0,none⟩)(K.length+1)c6)(K.length+1)(K.map(·.1)++ [lv]))
  (key:(ov.ownBlock=some g6/\(w.alloc o).grownBy w6(some g6))\/(g6=w.heap.size+1/\(w.alloc o).grownBy w6 none)):
  KS W B(w6.setCell⟨b,6,none⟩(.slice(some⟨g6,0,none⟩)(K.length+1)c6))b n m(.slice(some⟨g6,0,none⟩)(K.length+1)c6)mv lv len(K++ [(lv,m)])M:=by
 obtain⟨r,hg,hr,ac,aa,hsz⟩:=rm key;have hb:=s.h.lt;have ab:g6≠b:=ac b hb s.ob;have ad:∀ g,g<w.heap.size->ov.ownBlock≠some g->g≠b->(w6.setCell⟨b,6,none⟩(.slice(some⟨g6,0,none⟩)(K.length+1)c6)).heap[g]?=w.heap[g]?:=fun g h1 h2 h3=>by
  rw [Below.heap_setCell _ _ _ _(by simpa using h3)];exact aa g h1 h2
 have ag:=iW s.mrow;have ae:=iW s.lrow;refine⟨?_, ?_,iJ s.mrow(fun g e=>ad g(ag g e)(fun e2=>s.om g e2 e)(fun e2=>s.mb(by rw [e,e2]))),iJ s.lrow(fun g e=>ad g(ae g e)(fun e2=>s.ol g e2 e)(fun e2=>s.lb(by rw [e,e2]))),
  by simpa [Value.ownBlock]using ab,s.mb,s.lb, ?_, ?_,s.ml, ?_,s.lo,s.ln, ?_,s.wb⟩
 ·refine HAt.set6(ov:=ov) ?_ _;have:=s.h;unfold HAt at*;rw [aa b hb s.ob];exact this
 ·refine ownsRow_setCell_other ?_(by simpa [Value.ownBlock]using ab)_;simpa using af
 ·intro g e e2;simp only [Value.ownBlock,Option.some.injEq]at e;exact ac g(ag g e2)(fun e3=>s.om g e3 e2)e
 ·intro g e e2;simp only [Value.ownBlock,Option.some.injEq]at e;exact ac g(ae g e2)(fun e3=>s.ol g e3 e2)e
 ·intro x hx;rcases List.mem_append.1 hx with hx | hx
  ·obtain⟨k1,k2⟩:=s.kept x hx;refine⟨k1.same(fun g e=>by obtain⟨h1,h2,h3,h4,_⟩:=k2 g e;exact ad g h4 h2 h1),fun g e=> ?_⟩;obtain⟨h1,h2,h3,h4,h5⟩:=k2 g e;exact⟨h1,by simpa [Value.ownBlock]using ac g h4 h2,h3,by simp;omega,h5⟩
  ·simp at hx;subst hx;refine⟨?_,fun g e=>⟨fun e2=>s.lb(by rw [<-e2];exact e),by simpa [Value.ownBlock]using ac g(ae g e)(fun e3=>s.ol g e3 e),fun e3=>s.ml g e3 e,by have:=ae g e;simp;omega,fun _=>⟨rfl, ?_⟩⟩⟩
   ·rcases s.lrow.2 with⟨e,_⟩ | ⟨g,cap,cur,hv,hbb,hh,hc1,hc2,hc3,hc4⟩
    ·exact Or.inl e
    ·refine Or.inr⟨g,len,cap,hv,s.ln,fun k hk=> ?_⟩;have ah:=s.lrow;rw [hv]at ah;rw [World.cell?_of_block(ad g(Array.getElem?_eq_some_iff.1 hh).1(fun e3=>s.ol g e3(by rw [hv];rfl))(fun e3=>s.lb(by rw [hv,<-e3];rfl))),ah.cellAt k(by omega)];simp [hk]
   ·rcases s.lrow.2 with⟨e2,_⟩ | ⟨g',cap,cur,hv,_⟩
    ·rw [e2]at e;cases e
    ·rw [hv]at e;simp only [Value.ownBlock,Option.some.injEq]at e;exact⟨len,cap,by rw [hv,e],Nat.le_refl _⟩
 ·exact iC(sZ s.base s.wb hg hr(iw s.orow))(by have:=s.lo;have:=s.wb;omega)
theorem KS.mark(s:KS W B w b n m ov mv lv len K M) {w6:World} {o:Obj} {g6 c6:Nat}(ad:w6.ownsRow B 3 1(.slice(some⟨g6,0,none⟩)(M.length+1)c6)(M.length+1)(iI M++ [.int .i64 m]))
  (key:(mv.ownBlock=some g6/\(w.alloc o).grownBy w6(some g6))\/(g6=w.heap.size+1/\(w.alloc o).grownBy w6 none)):
  KS W B(w6.setCell⟨b,7,none⟩(.slice(some⟨g6,0,none⟩)(M.length+1)c6))b n m ov(.slice(some⟨g6,0,none⟩)(M.length+1)c6)lv len K(M++ [m]):=by
 obtain⟨r,hg,hr,ac,aa,hsz⟩:=rm key;have hb:=s.h.lt;have ab:g6≠b:=ac b hb s.mb;have ae:∀ g,g<w.heap.size->mv.ownBlock≠some g->g≠b->(w6.setCell⟨b,7,none⟩(.slice(some⟨g6,0,none⟩)(M.length+1)c6)).heap[g]?=w.heap[g]?:=fun g h1 h2 h3=>by
  rw [Below.heap_setCell _ _ _ _(by simpa using h3)];exact aa g h1 h2
 have af:=iW s.orow;have ag:=iW s.lrow;refine⟨?_,iJ s.orow(fun g e=>ae g(af g e)(fun e2=>s.om g e e2)(fun e2=>s.ob(by rw [e,e2]))), ?_,iJ s.lrow(fun g e=>ae g(ag g e)(fun e2=>s.ml g e2 e)(fun e2=>s.lb(by rw [e,e2]))),
  s.ob,by simpa [Value.ownBlock]using ab,s.lb, ?_,s.ol, ?_, ?_,s.lo,s.ln, ?_,s.wb⟩
 ·refine HAt.set7(mv:=mv) ?_ _;have:=s.h;unfold HAt at*;rw [aa b hb s.mb];exact this
 ·refine ownsRow_setCell_other ?_(by simpa [Value.ownBlock]using ab)_;simpa [iI]using ad
 ·intro g e e2;simp only [Value.ownBlock,Option.some.injEq]at e2;exact ac g(af g e)(fun e3=>s.om g e e3)e2
 ·intro g e e2;simp only [Value.ownBlock,Option.some.injEq]at e;exact ac g(ag g e2)(fun e3=>s.ml g e3 e2)e
 ·intro x hx;obtain⟨k1,k2⟩:=s.kept x hx;refine⟨k1.same(fun g e=>by obtain⟨h1,h2,h3,h4,_⟩:=k2 g e;exact ae g h4 h3 h1),fun g e=> ?_⟩;obtain⟨h1,h2,h3,h4,h5⟩:=k2 g e;exact⟨h1,h2,by simpa [Value.ownBlock]using ac g h4 h3,by simp;omega,h5⟩
 ·exact iC(sZ s.base s.wb hg hr(iw s.mrow))(by have:=s.lo;have:=s.wb;omega)
theorem KS.list(s:KS W B w b n m ov mv lv len K M)(hl:len+1<=1000) {w6:World} {o:Obj} {g6 c6:Nat}(ae:w6.ownsRow B 3 1(.slice(some⟨g6,0,none⟩)(len+1)c6)(len+1)(List.replicate len(.int .i64 m)++ [.int .i64 m]))
  (key:(lv.ownBlock=some g6/\(w.alloc o).grownBy w6(some g6))\/(g6=w.heap.size+1/\(w.alloc o).grownBy w6 none)):
  KS W B w6 b n m ov mv(.slice(some⟨g6,0,none⟩)(len+1)c6)(len+1)K M:=by
 obtain⟨r,hg,hr,ad,aa,hsz⟩:=rm key;have hb:=s.h.lt;have af:g6≠b:=ad b hb s.lb;have ag:=iW s.orow;have ah:=iW s.mrow;have ac:w6.ownsRow B 3 1(.slice(some⟨g6,0,none⟩)(len+1)c6)(len+1)(List.replicate(len+1)(.int .i64 m)):=by rw [List.replicate_succ'];exact ae
 refine⟨?_,iJ s.orow(fun g e=>aa g(ag g e)(s.ol g e)),iJ s.mrow(fun g e=>aa g(ah g e)(s.ml g e)),ac,s.ob,s.mb,by simpa [Value.ownBlock]using af,s.om, ?_, ?_, ?_,s.lo,hl, ?_,s.wb⟩
 ·have:=s.h;unfold HAt at*;rw [aa b hb s.lb];exact this
 ·intro g e e2;simp only [Value.ownBlock,Option.some.injEq]at e2;exact ad g(ag g e)(s.ol g e)e2
 ·intro g e e2;simp only [Value.ownBlock,Option.some.injEq]at e2;exact ad g(ah g e)(s.ml g e)e2
 ·intro x hx;obtain⟨k1,k2⟩:=s.kept x hx;refine⟨?_,fun g e=> ?_⟩
  ·rcases k1 with k1 | ⟨g,l,c,e,hl1,hc⟩
   ·exact Or.inl k1
   ·obtain⟨h1,h2,h3,h4,h5⟩:=k2 g(by rw [e];rfl);refine Or.inr⟨g,l,c,e,hl1,fun k hk=> ?_⟩;by_cases ab:lv.ownBlock=some g
    ·obtain⟨h6,l',c',e',ai⟩:=h5 ab;rw [e]at e';simp only [Value.slice.injEq,true_and]at e';rcases key with⟨e2,_⟩ | ⟨e2,hg2⟩
     ·have:g6=g:=by rw [ab]at e2;exact(Option.some.inj e2).symm
      subst this;rw [ac.cellAt k(by omega),h6,List.getElem?_replicate,if_pos(by omega)]
     ·have hw:w.grownBy w6 none:=ic(ij(il _ _))hg2;rw [World.cell?_of_block(hw.block g h4(by simp))];exact hc k hk
    ·rw [World.cell?_of_block(aa g h4 ab)];exact hc k hk
  ·obtain⟨h1,h2,h3,h4,h5⟩:=k2 g e;refine⟨h1,h2,h3,by omega,fun e2=> ?_⟩;simp only [Value.ownBlock,Option.some.injEq]at e2;by_cases ab:lv.ownBlock=some g
   ·obtain⟨h6,l',c',e',ai⟩:=h5 ab;exact⟨h6,l',c',e',by omega⟩
   ·exact absurd e2(ad g h4 ab)
 ·exact sZ s.base s.wb hg hr(iw s.lrow)
end
end
section
open Go.RowKit
structure Role where
 k:Nat
 c:Nat
abbrev Role.other:Role:=⟨0,0⟩
abbrev Role.hands:Role:=⟨1,0⟩
abbrev Role.lst(c:Nat):Role:=⟨2,c⟩
abbrev Role.mrk(c:Nat):Role:=⟨3,c⟩
abbrev Role.kept:Role:=⟨4,0⟩
abbrev Role.cur:Role:=⟨5,0⟩
abbrev Role.lrow(c:Nat):Role:=⟨6,c⟩
abbrev Role.lent:Role:=⟨7,0⟩
def Role.lends(r:Role):Bool:=r.k==6 || r.k==7
def hcl(f:Nat->Value):Array Value:= #[f 0,f 1,f 2,f 3,f 4,f 5,f 6,f 7,f 8,f 9,f 10,f 11,f 12,f 13,f 14,f 15]
def lC(f:Nat->Value)(o:Nat)(v:Value):Nat->Value:=fun k=>if k=o then v else f k
theorem lQ(f:Nat->Value)(o:Nat)(v:Value):lC f o v o=v:=by simp [lC]
theorem iT(f:Nat->Value) {o k:Nat}(v:Value)(h:k≠o):lC f o v k=f k:=by simp [lC,h]
theorem GD {o:Nat}(h:o<16):o=0\/o=1\/o=2\/o=3\/o=4\/o=5\/o=6\/o=7\/o=8\/o=9\/o=10\/o=11\/o=12\/o=13\/o=14\/o=15:=by omega
theorem D0(f:Nat->Value) {o:Nat}(h:o<16):(hcl f)[o]?=some(f o):=by
 rcases GD h with rfl | rfl | rfl | rfl | rfl | rfl | rfl | rfl | rfl | rfl | rfl | rfl | rfl | rfl | rfl | rfl<;>rfl
theorem Ex(f:Nat->Value) {o:Nat}(v:Value)(h:o<16):(hcl f).setIfInBounds o v=hcl(lC f o v):=by
 rcases GD h with rfl | rfl | rfl | rfl | rfl | rfl | rfl | rfl | rfl | rfl | rfl | rfl | rfl | rfl | rfl | rfl<;>rfl
def HB(w:World)(b:Nat)(f:Nat->Value):Prop:=w.heap[b]?=some(.cells(hcl f)45(0,0))
theorem HB.cell {w:World} {b:Nat} {f:Nat->Value}(h:HB w b f) {o:Nat}(ho:o<16):w.cell?⟨b,o,none⟩=some(f o):=by
 unfold HB at h;simp only [World.cell?,h];exact D0 f ho
theorem HB.frozen {w:World} {b:Nat} {f:Nat->Value}(h:HB w b f)(o:Nat):w.frozen?⟨b,o,none⟩=false:=by
 unfold HB at h;simp [World.frozen?,h]
theorem HB.lt {w:World} {b:Nat} {f:Nat->Value}(h:HB w b f):b<w.heap.size:=(Array.getElem?_eq_some_iff.1 h).1
theorem HB.set {w:World} {b:Nat} {f:Nat->Value}(h:HB w b f) {o:Nat}(ho:o<16)(v:Value):HB(w.setCell⟨b,o,none⟩v)b(lC f o v):=by
 unfold HB at*;rw [heap_setCell_same w b o _ _ v h,Ex f v ho]
theorem HB.same {w w':World} {b:Nat} {f:Nat->Value}(h:HB w b f)(e:w'.heap[b]?=w.heap[b]?):HB w' b f:=by unfold HB at*;rw [e];exact h
def tlC:Nat->TypeId
 | 0=>39
 | 1=>27
 | 2=>29
 | 3=>66
 | _=>35
def teC:Nat->TypeId
 | 0=>3
 | 1=>76
 | 2=>28
 | 3=>65
 | _=>66
def elC(m:Int):Nat->List Value
 | 0=> [.int .i64 m]
 | 1=> [.int .i64 m, .int .i64 0]
 | 2=> [.int .i64 m, .int .i64 1, .int .i64 2, .int .i64 3]
 | 3=> [.int .i64 m, .int .i64 0, .int .i64 0, .int .i64 0]
 | _=> []
def oA(w:World)(who:Nat->Role)(g len:Nat)(m:Int)(c:Nat):Prop:=
 if c=4 then ∀ k,k<len->∃ g' cap',w.cell?⟨g,k,none⟩=some(.slice(some⟨g',0,none⟩)1 cap')/\w.heap[g']?=some(.cells(elC m 3).toArray 65(0,0))/\who g'= .kept
 else ∀ k,k<len->∀ j u,(elC m c)[j]?=some u->w.cell?⟨g,k*(elC m c).length+j,none⟩=some u
theorem mS {w:World} {who:Nat->Role} {g len:Nat} {m:Int}:oA w who g len m 4↔∀ k,k<len->∃ g' cap',w.cell?⟨g,k,none⟩=some(.slice(some⟨g',0,none⟩)1 cap')/\w.heap[g']?=some(.cells(elC m 3).toArray 65(0,0))/\who g'= .kept:=by
 unfold oA;rw [if_pos rfl]
theorem mt {w:World} {who:Nat->Role} {g len:Nat} {m:Int} {c:Nat}(h:c≠4):oA w who g len m c↔∀ k,k<len->∀ j u,(elC m c)[j]?=some u->w.cell?⟨g,k*(elC m c).length+j,none⟩=some u:=by
 unfold oA;rw [if_neg h]
def KeptC(c:Nat)(w:World)(who:Nat->Role)(x:Value × Int):Prop:=
 x.1= .slice none 0 0\/∃ g len cap,x.1= .slice(some⟨g,0,none⟩)len cap/\len<=1000/\oA w who g len x.2 c
structure Hs(B:Nat)(w:World)(b:Nat)(who:Nat->Role)(n:Int)(f:Nat->Value)(K:Nat->List(Value × Int))(M:Nat->List Int):Prop where
 blk:HB w b f
 cnt:f 5= .int .i64 n
 lst:∀ c,c<5->w.ownsRow B(tlC c)1(f(6+2*c))(K c).length((K c).map(·.1))
 mrk:∀ c,c<5->w.ownsRow B 3 1(f(7+2*c))(M c).length(iI(M c))
 wl:∀ c,c<5->∀ g,(f(6+2*c)).ownBlock=some g->who g= .lst c
 wm:∀ c,c<5->∀ g,(f(7+2*c)).ownBlock=some g->who g= .mrk c
 wb:who b= .hands
 kept:∀ c,c<5->∀ x∈K c,KeptC c w who x/\∀ g,x.1.ownBlock=some g->who g= .kept\/who g= .cur
 dom:∀ g,who g≠ .other->B<=g/\g<w.heap.size
theorem mY {w w':World} {who:Nat->Role} {g len:Nat} {m:Int} {c:Nat}(h:oA w who g len m c)(hg:w'.heap[g]?=w.heap[g]?)(hk:∀ g,who g= .kept->w'.heap[g]?=w.heap[g]?):oA w' who g len m c:=by
 by_cases hc:c=4
 ·subst hc;rw [mS]at*;intro k ab;obtain⟨g',aa,h1,h2,h3⟩:=h k ab;exact⟨g',aa,by rw [World.cell?_of_block hg];exact h1,by rw [hk g' h3];exact h2,h3⟩
 ·rw [mt hc]at*;intro k ab j u hu;rw [World.cell?_of_block hg];exact h k ab j u hu
theorem KeptC.same {w w':World} {who:Nat->Role} {c:Nat} {x:Value × Int}(h:KeptC c w who x)(hx:∀ g,x.1.ownBlock=some g->who g= .kept\/who g= .cur)(hk:∀ g,who g= .kept\/who g= .cur->w'.heap[g]?=w.heap[g]?):KeptC c w' who x:=by
 rcases h with h | ⟨g,len,cap,e,hl,hc⟩
 ·exact Or.inl h
 ·exact Or.inr⟨g,len,cap,e,hl,mY hc(hk g(hx g(by rw [e];rfl)))(fun g e=>hk g(Or.inl e))⟩
theorem yI {w:World} {who aa:Nat->Role} {g len:Nat} {m:Int} {c:Nat}(h:oA w who g len m c)(hk:∀ g,who g= .kept->aa g= .kept):oA w aa g len m c:=by
 by_cases hc:c=4
 ·subst hc;rw [mS]at*;intro k ac;obtain⟨g',ab,h1,h2,h3⟩:=h k ac;exact⟨g',ab,h1,h2,hk g' h3⟩
 ·rw [mt hc]at*;exact h
theorem KeptC.who {w:World} {who aa:Nat->Role} {c:Nat} {x:Value × Int}(h:KeptC c w who x)(hk:∀ g,who g= .kept->aa g= .kept):KeptC c w aa x:=by
 rcases h with h | ⟨g,len,cap,e,hl,hc⟩
 ·exact Or.inl h
 ·exact Or.inr⟨g,len,cap,e,hl,yI hc hk⟩
section
variable {B : Nat} {w w' : World} {b : Nat} {who who' : Nat -> Role} {n : Int} {f : Nat -> Value} {K : Nat -> List (Value × Int)} {M : Nat -> List Int}
theorem Hs.same(h:Hs B w b who n f K M)(hs:w.heap.size<=w'.heap.size)(hb:∀ g,g<w.heap.size->who g≠ .other->(who g).lends=false->w'.heap[g]?=w.heap[g]?):Hs B w' b who n f K M:=by
 have hr:∀ g,who g≠ .other->(who g).lends=false->w'.heap[g]?=w.heap[g]?:=fun g h1 h2=>hb g(h.dom g h1).2 h1 h2
 have hk:∀ g,who g= .kept\/who g= .cur->w'.heap[g]?=w.heap[g]?:=fun g e=>by
  rcases e with e | e<;>exact hr g(by rw [e];simp)(by rw [e];rfl)
 refine⟨h.blk.same(hr b(by rw [h.wb];simp)(by rw [h.wb];rfl)),h.cnt,fun c hc=>iJ(h.lst c hc)(fun g e=> ?_),fun c hc=>iJ(h.mrk c hc)(fun g e=> ?_),h.wl,h.wm,h.wb,fun c hc x hx=> ?_,fun g e=> ?_⟩
 ·have:=h.wl c hc g e;exact hr g(by rw [this];simp)(by rw [this];rfl)
 ·have:=h.wm c hc g e;exact hr g(by rw [this];simp)(by rw [this];rfl)
 ·obtain⟨k1,k2⟩:=h.kept c hc x hx;exact⟨k1.same k2 hk,k2⟩
 ·have:=h.dom g e;exact⟨this.1,by omega⟩
theorem Hs.grown(h:Hs B w b who n f K M)(hg:w.grownBy w' none):Hs B w' b who n f K M:=h.same hg.size(fun g hg1 _ _=>hg.block g hg1(by simp))
theorem Hs.like(h:Hs B w b who n f K M)(hl:jr w' w):Hs B w' b who n f K M:=h.grown(iH hl)
theorem Hs.more(h:Hs B w b who n f K M)(hw:∀ g,who g≠ .other->who' g=who g)(hd:∀ g,who' g≠ .other->B<=g/\g<w.heap.size):Hs B w b who' n f K M:=by
 have hk:∀ g,who g= .kept\/who g= .cur->who' g= .kept\/who' g= .cur:=fun g e=>by
  have:who' g=who g:=hw g(by rcases e with e | e<;>rw [e]<;>simp);rw [this];exact e
 refine⟨h.blk,h.cnt,h.lst,h.mrk,fun c hc g e=> ?_,fun c hc g e=> ?_, ?_,fun c hc x hx=> ?_,hd⟩
 ·have:=h.wl c hc g e;rw [hw g(by rw [this];simp),this]
 ·have:=h.wm c hc g e;rw [hw g(by rw [this];simp),this]
 ·rw [hw b(by rw [h.wb];simp),h.wb]
 ·obtain⟨k1,k2⟩:=h.kept c hc x hx;exact⟨k1.who(fun g e=>by rw [hw g(by rw [e];simp)];exact e),fun g e=>hk g(k2 g e)⟩
theorem Hs.setLent(h:Hs B w b who n f K M) {o:Nat}(ho:o<5)(v:Value):Hs B(w.setCell⟨b,o,none⟩v)b who n(lC f o v)K M:=by
 have hr:∀ g,who g≠ .hands->(w.setCell⟨b,o,none⟩v).heap[g]?=w.heap[g]?:=fun g e=>Below.heap_setCell _ _ _ _(by intro e2;simp only at e2;rw [e2]at e;exact e h.wb)
 have hk:∀ g,who g= .kept\/who g= .cur->(w.setCell⟨b,o,none⟩v).heap[g]?=w.heap[g]?:=fun g e=>hr g(by rcases e with e | e<;>rw [e]<;>simp)
 refine⟨h.blk.set(by omega)v,by rw [iT _ _(by omega)];exact h.cnt,fun c hc=> ?_,fun c hc=> ?_,fun c hc=> ?_,fun c hc=> ?_,h.wb,fun c hc x hx=> ?_,fun g e=> ?_⟩
 ·rw [iT _ _(by omega)];exact iJ(h.lst c hc)(fun g e=>hr g(by rw [h.wl c hc g e];simp))
 ·rw [iT _ _(by omega)];exact iJ(h.mrk c hc)(fun g e=>hr g(by rw [h.wm c hc g e];simp))
 ·rw [iT _ _(by omega)];exact h.wl c hc
 ·rw [iT _ _(by omega)];exact h.wm c hc
 ·obtain⟨k1,k2⟩:=h.kept c hc x hx;exact⟨k1.same k2 hk,k2⟩
 ·have:=h.dom g e;exact⟨this.1,by simpa using this.2⟩
theorem Hs.setCnt(h:Hs B w b who n f K M)(m:Int):Hs B(w.setCell⟨b,5,none⟩(.int .i64 m))b who m(lC f 5(.int .i64 m))K M:=by
 have hr:∀ g,who g≠ .hands->(w.setCell⟨b,5,none⟩(.int .i64 m)).heap[g]?=w.heap[g]?:=fun g e=>Below.heap_setCell _ _ _ _(by intro e2;simp only at e2;rw [e2]at e;exact e h.wb)
 have hk:∀ g,who g= .kept\/who g= .cur->(w.setCell⟨b,5,none⟩(.int .i64 m)).heap[g]?=w.heap[g]?:=fun g e=>hr g(by rcases e with e | e<;>rw [e]<;>simp)
 refine⟨h.blk.set(by omega)_,lQ _ _ _,fun c hc=> ?_,fun c hc=> ?_,fun c hc=> ?_,fun c hc=> ?_,h.wb,fun c hc x hx=> ?_,fun g e=> ?_⟩
 ·rw [iT _ _(by omega)];exact iJ(h.lst c hc)(fun g e=>hr g(by rw [h.wl c hc g e];simp))
 ·rw [iT _ _(by omega)];exact iJ(h.mrk c hc)(fun g e=>hr g(by rw [h.wm c hc g e];simp))
 ·rw [iT _ _(by omega)];exact h.wl c hc
 ·rw [iT _ _(by omega)];exact h.wm c hc
 ·obtain⟨k1,k2⟩:=h.kept c hc x hx;exact⟨k1.same k2 hk,k2⟩
 ·have:=h.dom g e;exact⟨this.1,by simpa using this.2⟩
end
end
section
open Go.RowKit
def setW(who:Nat->Role)(g:Nat)(r:Role):Nat->Role:=fun k=>if k=g then r else who k
theorem jz(who:Nat->Role)(g:Nat)(r:Role):setW who g r g=r:=by simp [setW]
theorem iK(who:Nat->Role) {g k:Nat}(r:Role)(h:k≠g):setW who g r k=who k:=by simp [setW,h]
def oL(K:Nat->List(Value × Int))(c:Nat)(l:List(Value × Int)):Nat->List(Value × Int):=fun k=>if k=c then l else K k
theorem nI(K:Nat->List(Value × Int))(c:Nat)(l:List(Value × Int)):oL K c l c=l:=by simp [oL]
theorem nL(K:Nat->List(Value × Int)) {c k:Nat}(l:List(Value × Int))(h:k≠c):oL K c l k=K k:=by simp [oL,h]
def wM(M:Nat->List Int)(c:Nat)(l:List Int):Nat->List Int:=fun k=>if k=c then l else M k
theorem Af(M:Nat->List Int)(c:Nat)(l:List Int):wM M c l c=l:=by simp [wM]
theorem zO(M:Nat->List Int) {c k:Nat}(l:List Int)(h:k≠c):wM M c l k=M k:=by simp [wM,h]
def jk(K:Nat->List(Value × Int)):Nat->List Int:=fun c=>(K c).map(·.2)
structure Fr(w w':World)(who who':Nat->Role)(ex:Nat->Prop):Prop where
 os:w'.os=w.os
 tape:w'.tape=w.tape
 output:w'.output=w.output
 size:w.heap.size<=w'.heap.size
 oth:∀ g,g<w.heap.size->who g= .other->¬ex g->w'.heap[g]?=w.heap[g]?/\who' g= .other
theorem Fr.refl(w:World)(who:Nat->Role)(ex:Nat->Prop):Fr w w who who ex:=⟨rfl,rfl,rfl,Nat.le_refl _,fun _ _ h _=>⟨rfl,h⟩⟩
theorem Fr.trans {w w1 w2:World} {who who1 who2:Nat->Role} {ex:Nat->Prop}(h:Fr w w1 who who1 ex)(h':Fr w1 w2 who1 who2 ex):Fr w w2 who who2 ex:=
 ⟨h'.os.trans h.os,h'.tape.trans h.tape,h'.output.trans h.output,Nat.le_trans h.size h'.size,fun g h1 h2 h3=>by
  obtain⟨a,b⟩:=h.oth g h1 h2 h3;obtain⟨c,d⟩:=h'.oth g(Nat.lt_of_lt_of_le h1 h.size)b h3;exact⟨c.trans a,d⟩⟩
theorem Fr.mono {w w':World} {who who':Nat->Role} {ex ex':Nat->Prop}(h:Fr w w' who who' ex)(he:∀ g,ex g->ex' g):Fr w w' who who' ex':=
 ⟨h.os,h.tape,h.output,h.size,fun g h1 h2 h3=>h.oth g h1 h2(fun e=>h3(he g e))⟩
theorem Fr.grown {w w':World} {who:Nat->Role} {ex:Nat->Prop}(h:w.grownBy w' none):Fr w w' who who ex:=⟨h.os,h.tape,h.output,h.size,fun g h1 h2 _=>⟨h.block g h1(by simp),h2⟩⟩
theorem Fr.like {w w':World} {who:Nat->Role} {ex:Nat->Prop}(h:jr w' w):Fr w w' who who ex:=Fr.grown(iH h)
theorem Fr.set {w:World} {who:Nat->Role} {ex:Nat->Prop} {g o:Nat} {v:Value}(h:who g≠ .other\/ex g):Fr w(w.setCell⟨g,o,none⟩v)who who ex:=
 ⟨rfl,rfl,rfl,by simp,fun k _ h2 h3=>⟨Below.heap_setCell _ _ _ _(fun e=>by simp only at e;subst e;rcases h with h | h;exact h h2;exact h3 h),h2⟩⟩
theorem Fr.setW {w w':World} {who who':Nat->Role} {ex:Nat->Prop} {g:Nat} {r:Role}(h:Fr w w' who who' ex)(hg:w.heap.size<=g\/who' g≠ .other\/ex g):Fr w w' who(setW who' g r)ex:=
 ⟨h.os,h.tape,h.output,h.size,fun k h1 h2 h3=>by
  obtain⟨a,b⟩:=h.oth k h1 h2 h3;refine⟨a, ?_⟩;rw [iK]
  ·exact b
  ·intro e;subst e
   rcases hg with hg | hg | hg
   ·omega
   ·exact hg b
   ·exact h3 hg⟩
theorem Fr.key {w w6:World} {who:Nat->Role} {ex:Nat->Prop} {o:Obj} {v:Value} {g6:Nat} {r:Role}(hv:∀ g,v.ownBlock=some g->who g≠ .other)(key:(v.ownBlock=some g6/\(w.alloc o).grownBy w6(some g6))\/(g6=w.heap.size+1/\(w.alloc o).grownBy w6 none)):
  Fr w w6 who(Go.Proofs.YtklenjmfalljgabGreatDoor.setW who g6 r)ex:=by
 rcases key with⟨e,hg⟩ | ⟨e,hg⟩
 ·have hw:w.grownBy w6(some g6):=ic(ij(il _ _))hg;refine Fr.setW⟨hw.os,hw.tape,hw.output,hw.size,fun k h1 h2 _=>⟨hw.block k h1(fun e2=> ?_),h2⟩⟩(Or.inr(Or.inl(hv g6 e)));simp only [Option.some.injEq]at e2;subst e2;exact hv _ e h2
 ·exact Fr.setW(Fr.grown(ic(ij(il _ _))hg))(Or.inl(by omega))
theorem Fr.base {W w w':World} {who aa:Nat->Role} {ex:Nat->Prop} {B:Nat}(h:Fr w w' who aa ex)(hW:W.grownBy w none)(hB:W.heap.size<=B)(hd:∀ g,who g≠ .other->B<=g)(he:∀ g,ex g->W.heap.size<=g):W.grownBy w' none:=
 ⟨h.os.trans hW.os,h.tape.trans hW.tape,h.output.trans hW.output,Nat.le_trans hW.size h.size,fun k hk _=>by
  have ho:who k= .other:=by
   by_cases e:who k= .other
   ·exact e
   ·exact absurd(hd k e)(by omega)
  rw [(h.oth k(Nat.lt_of_lt_of_le hk hW.size)ho(fun e=>by have:=he k e;omega)).1];exact hW.block k hk(by simp)⟩
structure Cur(B:Nat)(w:World)(who:Nat->Role)(m:Int)(c:Nat)(lv:Value)(len:Nat)(K:Nat->List(Value × Int)):Prop where
 row:w.ownsRow B(teC c)(elC m c).length lv len(List.replicate len(elC m c)).flatten
 wc:∀ g,lv.ownBlock=some g->who g= .cur
 ent:∀ x∈K c,∀ g,x.1.ownBlock=some g->who g= .cur->x.2=m/\∃ l c',x.1= .slice(some⟨g,0,none⟩)l c'/\(lv.ownBlock=some g->l<=len)
 oth:∀ c',c'<5->c'≠c->∀ x∈K c',∀ g,x.1.ownBlock=some g->who g= .kept
 ln:len<=1000
section
variable {B : Nat} {w w6 : World} {b : Nat} {who : Nat -> Role} {n m : Int} {f : Nat -> Value} {K : Nat -> List (Value × Int)} {M : Nat -> List Int} {c : Nat} {lv : Value} {len : Nat}
theorem mq(e:List Value)(k:Nat):((List.replicate k e).flatten).length=k*e.length:=by
 induction k with
 | zero=>simp
 | succ k ih=>rw [List.replicate_succ,List.flatten_cons,List.length_append,ih,Nat.succ_mul];omega
theorem wu(e:List Value)(n k j:Nat)(u:Value)(hk:k<n)(hj:e[j]?=some u):((List.replicate n e).flatten)[k*e.length+j]?=some u:=by
 induction n generalizing k with
 | zero=>omega
 | succ n ih=>
  have aa:=(List.getElem?_eq_some_iff.1 hj).1;rw [List.replicate_succ,List.flatten_cons];cases k with
  | zero=>rw [Nat.zero_mul,Nat.zero_add,List.getElem?_append_left aa];exact hj
  | succ k=>
   rw [List.getElem?_append_right(by rw [Nat.succ_mul];omega),Nat.succ_mul];have:k*e.length+e.length+j - e.length=k*e.length+j:=by omega
   rw [this];exact ih k(by omega)
theorem lf(e:List Value)(n:Nat):(List.replicate n e).flatten++e=(List.replicate(n+1)e).flatten:=by
 rw [List.replicate_succ',List.flatten_append];simp
theorem Cur.keptNow(cu:Cur B w who m c lv len K)(hc:c<4):KeptC c w who(lv,m):=by
 rcases cu.row.2 with⟨e,_⟩ | ⟨g,cap,cur,hv,hbb,hh,hrest⟩
 ·exact Or.inl e
 ·refine Or.inr⟨g,len,cap,hv,cu.ln, ?_⟩;have hr:=cu.row;rw [hv]at hr;have aa:∀ k,k<len->∀ j u,(elC m c)[j]?=some u->w.cell?⟨g,k*(elC m c).length+j,none⟩=some u:=fun k hk j u hu=>by
   have hjl:=(List.getElem?_eq_some_iff.1 hu).1;have h2:(k+1)*(elC m c).length<=len*(elC m c).length:=Nat.mul_le_mul_right _ hk;rw [Nat.succ_mul]at h2;rw [hr.cellAt _(by omega)];exact wu _ _ _ _ _ hk hu
  exact(mt(by omega)).2 aa
theorem kH {v:Value} {o:Obj} {g6:Nat}(key:(v.ownBlock=some g6/\(w.alloc o).grownBy w6(some g6))\/(g6=w.heap.size+1/\(w.alloc o).grownBy w6 none))(hd:∀ g,who g≠ .other->g<w.heap.size) {r:Role}(hr:r≠ .other)(hv:∀ g,v.ownBlock=some g->who g=r):
  w.heap.size<=w6.heap.size/\(∀ g,who g≠ .other->who g≠r->w6.heap[g]?=w.heap[g]?/\g6≠g)/\(∀ g,who g=r->g6≠g->w6.heap[g]?=w.heap[g]?)/\(g6<w.heap.size->who g6=r):=by
 rcases key with⟨e,hg⟩ | ⟨e,hg⟩
 ·have hw:w.grownBy w6(some g6):=ic(ij(il _ _))hg;have h6:=hv g6 e;refine⟨hw.size,fun g h1 h2=> ?_,fun g h1 h2=>hw.block g(hd g(by rw [h1];exact hr))(by simpa using fun e2=>h2 e2.symm),fun _=>h6⟩;have aa:g6≠g:=fun e2=>h2(by rw [<-e2];exact h6)
  exact⟨hw.block g(hd g h1)(by simpa using fun e2=>aa e2.symm),aa⟩
 ·have hw:w.grownBy w6 none:=ic(ij(il _ _))hg;refine⟨hw.size,fun g h1 h2=>⟨hw.block g(hd g h1)(by simp),by have:=hd g h1;omega⟩,fun g h1 h2=>hw.block g(hd g(by rw [h1];exact hr))(by simp),fun h=>by omega⟩
end
end
section
open Go.RowKit
section
variable {B : Nat} {w w6 : World} {b : Nat} {who : Nat -> Role} {n m : Int} {f : Nat -> Value} {K : Nat -> List (Value × Int)} {M : Nat -> List Int} {c : Nat} {lv : Value} {len : Nat}
theorem Hs.push(h:Hs B w b who n f K M)(cu:Cur B w who m c lv len K)(hc:c<4) {o:Obj} {g6 c6:Nat}
  (ac:w6.ownsRow B(tlC c)1(.slice(some⟨g6,0,none⟩)((K c).length+1)c6)((K c).length+1)((K c).map(·.1)++ [lv]))
  (key:((f(6+2*c)).ownBlock=some g6/\(w.alloc o).grownBy w6(some g6))\/(g6=w.heap.size+1/\(w.alloc o).grownBy w6 none)):
  Hs B(w6.setCell⟨b,6+2*c,none⟩(.slice(some⟨g6,0,none⟩)((K c).length+1)c6))b(setW who g6(.lst c))n(lC f(6+2*c)(.slice(some⟨g6,0,none⟩)((K c).length+1)c6))(oL K c(K c++ [(lv,m)]))M/\
  Cur B(w6.setCell⟨b,6+2*c,none⟩(.slice(some⟨g6,0,none⟩)((K c).length+1)c6))(setW who g6(.lst c))m c lv len(oL K c(K c++ [(lv,m)])):=by
 have ao:c<5:=by omega
 obtain⟨hsz,af,hsr,h6r⟩:=kH key(fun g e=>(h.dom g e).2)(r:= .lst c)(by simp)(h.wl c ao);have an:g6≠b:=(af b(by rw [h.wb];simp)(by rw [h.wb];simp)).2;have ag:HB w6 b f:=h.blk.same(af b(by rw [h.wb];simp)(by rw [h.wb];simp)).1;generalize hV:Value.slice(some⟨g6,0,none⟩)((K c).length+1)c6=V at*;have ae:V.ownBlock=some g6:=by rw [<-hV];rfl
 have ab:∀ g,who g≠ .other->who g≠ .lst c->g≠b->(w6.setCell⟨b,6+2*c,none⟩V).heap[g]?=w.heap[g]?:=fun g h1 h2 h3=>by
  rw [Below.heap_setCell _ _ _ _(by simpa using h3)];exact(af g h1 h2).1
 have hW:∀ g,who g≠ .other->who g≠ .lst c->setW who g6(.lst c)g=who g:=fun g h1 h2=>iK _ _(fun e=>(af g h1 h2).2 e.symm)
 have am:∀ g,who g= .kept\/who g= .cur->(w6.setCell⟨b,6+2*c,none⟩V).heap[g]?=w.heap[g]?:=fun g e=>ab g(by rcases e with e | e<;>rw [e]<;>simp)(by rcases e with e | e<;>rw [e]<;>simp)(fun e2=>by subst e2;rw [h.wb]at e;rcases e with e | e<;>cases e)
 have aj:∀ g,who g= .kept->setW who g6(.lst c)g= .kept:=fun g e=>by rw [hW g(by rw [e];simp)(by rw [e];simp)];exact e
 have ak:∀ g,who g= .cur->setW who g6(.lst c)g= .cur:=fun g e=>by rw [hW g(by rw [e];simp)(by rw [e];simp)];exact e
 have ah:∀ g,who g= .kept\/who g= .cur->setW who g6(.lst c)g= .kept\/setW who g6(.lst c)g= .cur:=fun g e=>e.imp(aj g)(ak g)
 have aa:∀ g,setW who g6(.lst c)g= .cur->who g= .cur:=fun g e=>by
  by_cases e2:g=g6
  ·subst e2;rw [jz]at e;cases e
  ·rwa [iK _ _ e2]at e
 have ad:∀ c' x,c'<5->x∈K c'->KeptC c'(w6.setCell⟨b,6+2*c,none⟩V)(setW who g6(.lst c))x/\∀ g,x.1.ownBlock=some g->setW who g6(.lst c)g= .kept\/setW who g6(.lst c)g= .cur:=fun c' x hc' hx=>by
  obtain⟨k1,k2⟩:=h.kept c' hc' x hx;exact⟨(k1.same k2 am).who aj,fun g e=>ah g(k2 g e)⟩
 have ai:(w6.setCell⟨b,6+2*c,none⟩V).ownsRow B(teC c)(elC m c).length lv len(List.replicate len(elC m c)).flatten:=iJ cu.row(fun g e=>am g(Or.inr(cu.wc g e)));have al:Cur B(w6.setCell⟨b,6+2*c,none⟩V)(setW who g6(.lst c))m c lv len(oL K c(K c++ [(lv,m)])):=by
  refine⟨ai,fun g e=>ak g(cu.wc g e),fun x hx g e e2=> ?_,fun c' hc' hne x hx g e=> ?_,cu.ln⟩
  ·rw [nI]at hx;rcases List.mem_append.1 hx with hx | hx
   ·exact cu.ent x hx g e(aa g e2)
   ·simp at hx;subst hx;refine⟨rfl, ?_⟩;rcases cu.row.2 with⟨e3,_⟩ | ⟨g',cap,cur,hv,_⟩
    ·simp only at e;rw [e3]at e;cases e
    ·simp only at e;rw [hv]at e;simp only [Value.ownBlock,Option.some.injEq]at e;exact⟨len,cap,by rw [hv,e],fun _=>Nat.le_refl _⟩
  ·rw [nL _ _ hne]at hx;exact aj g(cu.oth c' hc' hne x hx g e)
 refine⟨⟨ag.set(by omega)V,by rw [iT _ _(by omega)];exact h.cnt,fun c' hc'=> ?_,fun c' hc'=> ?_,fun c' hc' g e=> ?_,fun c' hc' g e=> ?_, ?_,fun c' hc' x hx=> ?_,fun g e=> ?_⟩,al⟩
 ·by_cases e:c'=c
  ·subst e;rw [lQ,nI];have:=ownsRow_setCell_other(a:=⟨b,6+2*c',none⟩)ac(show V.ownBlock≠some b by rw [ae];simpa using an)V;simpa using this
  ·rw [iT _ _(by omega),nL _ _ e];exact iJ(h.lst c' hc')(fun g e2=>ab g(by rw [h.wl c' hc' g e2];simp)(by rw [h.wl c' hc' g e2];simpa using e)(fun e3=>by subst e3;have:=h.wl c' hc' g e2;rw [h.wb]at this;cases this))
 ·rw [iT _ _(by omega)];exact iJ(h.mrk c' hc')(fun g e2=>ab g(by rw [h.wm c' hc' g e2];simp)(by rw [h.wm c' hc' g e2];simp)(fun e3=>by subst e3;have:=h.wm c' hc' g e2;rw [h.wb]at this;cases this))
 ·by_cases e2:c'=c
  ·subst e2;rw [lQ,ae]at e;simp only [Option.some.injEq]at e;subst e;exact jz _ _ _
  ·rw [iT _ _(by omega)]at e;have:=h.wl c' hc' g e;rw [hW g(by rw [this];simp)(by rw [this];simpa using e2),this]
 ·rw [iT _ _(by omega)]at e;have:=h.wm c' hc' g e;rw [hW g(by rw [this];simp)(by rw [this];simp),this]
 ·rw [hW b(by rw [h.wb];simp)(by rw [h.wb];simp),h.wb]
 ·by_cases e2:c'=c
  ·subst e2;rw [nI]at hx;rcases List.mem_append.1 hx with hx | hx
   ·exact ad c' x hc' hx
   ·simp at hx;subst hx;exact⟨al.keptNow hc,fun g e=>Or.inr(ak g(cu.wc g e))⟩
  ·rw [nL _ _ e2]at hx;exact ad c' x hc' hx
 ·by_cases e2:g=g6
  ·subst e2;have h1:=iw ac g ae;have h2:=iW ac g ae;exact⟨h1,by simpa using h2⟩
  ·rw [iK _ _ e2]at e;have:=h.dom g e;exact⟨this.1,by simp;omega⟩
theorem Hs.tell(h:Hs B w b who n f K M)(cu:Cur B w who m c lv len K)(hc:c<4) {o:Obj} {g6 c6:Nat}
  (ab:w6.ownsRow B 3 1(.slice(some⟨g6,0,none⟩)((M c).length+1)c6)((M c).length+1)(iI(M c)++ [.int .i64 m]))
  (key:((f(7+2*c)).ownBlock=some g6/\(w.alloc o).grownBy w6(some g6))\/(g6=w.heap.size+1/\(w.alloc o).grownBy w6 none)):
  Hs B(w6.setCell⟨b,7+2*c,none⟩(.slice(some⟨g6,0,none⟩)((M c).length+1)c6))b(setW who g6(.mrk c))n(lC f(7+2*c)(.slice(some⟨g6,0,none⟩)((M c).length+1)c6))K(wM M c(M c++ [m]))/\
  Cur B(w6.setCell⟨b,7+2*c,none⟩(.slice(some⟨g6,0,none⟩)((M c).length+1)c6))(setW who g6(.mrk c))m c lv len K:=by
 have ak:c<5:=by omega
 obtain⟨hsz,ae,hsr,h6r⟩:=kH key(fun g e=>(h.dom g e).2)(r:= .mrk c)(by simp)(h.wm c ak);have aj:g6≠b:=(ae b(by rw [h.wb];simp)(by rw [h.wb];simp)).2;have ag:HB w6 b f:=h.blk.same(ae b(by rw [h.wb];simp)(by rw [h.wb];simp)).1;generalize hV:Value.slice(some⟨g6,0,none⟩)((M c).length+1)c6=V at*;have ad:V.ownBlock=some g6:=by rw [<-hV];rfl
 have ac:∀ g,who g≠ .other->who g≠ .mrk c->g≠b->(w6.setCell⟨b,7+2*c,none⟩V).heap[g]?=w.heap[g]?:=fun g h1 h2 h3=>by
  rw [Below.heap_setCell _ _ _ _(by simpa using h3)];exact(ae g h1 h2).1
 have hW:∀ g,who g≠ .other->who g≠ .mrk c->setW who g6(.mrk c)g=who g:=fun g h1 h2=>iK _ _(fun e=>(ae g h1 h2).2 e.symm)
 have ah:∀ g,who g= .kept\/who g= .cur->(w6.setCell⟨b,7+2*c,none⟩V).heap[g]?=w.heap[g]?:=fun g e=>ac g(by rcases e with e | e<;>rw [e]<;>simp)(by rcases e with e | e<;>rw [e]<;>simp)(fun e2=>by subst e2;rw [h.wb]at e;rcases e with e | e<;>cases e)
 have af:∀ g,who g= .kept->setW who g6(.mrk c)g= .kept:=fun g e=>by rw [hW g(by rw [e];simp)(by rw [e];simp)];exact e
 have ai:∀ g,who g= .cur->setW who g6(.mrk c)g= .cur:=fun g e=>by rw [hW g(by rw [e];simp)(by rw [e];simp)];exact e
 have aa:∀ g,setW who g6(.mrk c)g= .cur->who g= .cur:=fun g e=>by
  by_cases e2:g=g6
  ·subst e2;rw [jz]at e;cases e
  ·rwa [iK _ _ e2]at e
 refine⟨⟨ag.set(by omega)V,by rw [iT _ _(by omega)];exact h.cnt,fun c' hc'=> ?_,fun c' hc'=> ?_,fun c' hc' g e=> ?_,fun c' hc' g e=> ?_, ?_,fun c' hc' x hx=> ?_,fun g e=> ?_⟩,
  ⟨iJ cu.row(fun g e=>ah g(Or.inr(cu.wc g e))),fun g e=>ai g(cu.wc g e),fun x hx g e e2=>cu.ent x hx g e(aa g e2),fun c' hc' hne x hx g e=>af g(cu.oth c' hc' hne x hx g e),cu.ln⟩⟩
 ·rw [iT _ _(by omega)];exact iJ(h.lst c' hc')(fun g e2=>ac g(by rw [h.wl c' hc' g e2];simp)(by rw [h.wl c' hc' g e2];simp)(fun e3=>by subst e3;have:=h.wl c' hc' g e2;rw [h.wb]at this;cases this))
 ·by_cases e:c'=c
  ·subst e;rw [lQ,Af];have:=ownsRow_setCell_other(a:=⟨b,7+2*c',none⟩)ab(show V.ownBlock≠some b by rw [ad];simpa using aj)V;simpa [iI]using this
  ·rw [iT _ _(by omega),zO _ _ e];exact iJ(h.mrk c' hc')(fun g e2=>ac g(by rw [h.wm c' hc' g e2];simp)(by rw [h.wm c' hc' g e2];simpa using e)(fun e3=>by subst e3;have:=h.wm c' hc' g e2;rw [h.wb]at this;cases this))
 ·rw [iT _ _(by omega)]at e;have:=h.wl c' hc' g e;rw [hW g(by rw [this];simp)(by rw [this];simp),this]
 ·by_cases e2:c'=c
  ·subst e2;rw [lQ,ad]at e;simp only [Option.some.injEq]at e;subst e;exact jz _ _ _
  ·rw [iT _ _(by omega)]at e;have:=h.wm c' hc' g e;rw [hW g(by rw [this];simp)(by rw [this];simpa using e2),this]
 ·rw [hW b(by rw [h.wb];simp)(by rw [h.wb];simp),h.wb]
 ·obtain⟨k1,k2⟩:=h.kept c' hc' x hx;exact⟨(k1.same k2 ah).who af,fun g e=>(k2 g e).imp(af g)(ai g)⟩
 ·by_cases e2:g=g6
  ·subst e2;have h1:=iw ab g ad;have h2:=iW ab g ad;exact⟨h1,by simpa using h2⟩
  ·rw [iK _ _ e2]at e;have:=h.dom g e;exact⟨this.1,by simp;omega⟩
theorem Hs.grow(h:Hs B w b who n f K M)(cu:Cur B w who m c lv len K)(hc:c<4)(am:len+1<=1000) {o:Obj} {g6 c6:Nat}
  (ab:w6.ownsRow B(teC c)(elC m c).length(.slice(some⟨g6,0,none⟩)(len+1)c6)(len+1)((List.replicate len(elC m c)).flatten++elC m c))
  (key:(lv.ownBlock=some g6/\(w.alloc o).grownBy w6(some g6))\/(g6=w.heap.size+1/\(w.alloc o).grownBy w6 none)):
  Hs B w6 b(setW who g6 .cur)n f K M/\Cur B w6(setW who g6 .cur)m c(.slice(some⟨g6,0,none⟩)(len+1)c6)(len+1)K:=by
 obtain⟨hsz,av,aq,ar⟩:=kH key(fun g e=>(h.dom g e).2)(r:= .cur)(by simp)cu.wc;have hW:∀ g,who g≠ .other->setW who g6 .cur g=who g:=fun g h1=>by
  by_cases e:g=g6
  ·subst e;rw [jz];exact(ar(h.dom g h1).2).symm
  ·exact iK _ _ e
 have ae:∀ g,setW who g6 .cur g= .cur->g=g6\/who g= .cur:=fun g e=>by
  by_cases e2:g=g6
  ·exact Or.inl e2
  ·rw [iK _ _ e2]at e;exact Or.inr e
 have ac:∀ g,who g≠ .other->who g≠ .cur->w6.heap[g]?=w.heap[g]?:=fun g h1 h2=>(av g h1 h2).1
 rw [lf]at ab;have ad:∀ g,lv.ownBlock=some g->∀ k,k<len*(elC m c).length->w6.cell?⟨g,k,none⟩=w.cell?⟨g,k,none⟩:=fun g e k hk=>by
  by_cases e2:g6=g
  ·subst e2;rcases cu.row.2 with⟨e3,_⟩ | ⟨g',cap,cur,hv,_⟩
   ·rw [e3]at e;cases e
   ·have hr:=cu.row;rw [hv]at e;simp only [Value.ownBlock,Option.some.injEq]at e;subst e;rw [hv]at hr;have al:k<(len+1)*(elC m c).length:=by rw [Nat.succ_mul];omega
    rw [ab.cellAt k al,hr.cellAt k hk,<-lf,List.getElem?_append_left(by rw [mq];exact hk)]
  ·exact World.cell?_of_block(aq g(cu.wc g e)e2)
 have af:∀ g,who g= .cur->lv.ownBlock≠some g->w6.heap[g]?=w.heap[g]?:=fun g e e2=>by
  by_cases e3:g6=g
  ·subst e3;rcases key with⟨k1,_⟩ | ⟨k1,_⟩
   ·exact absurd k1 e2
   ·have:=(h.dom g6(by rw [e];simp)).2;omega
  ·exact aq g e e3
 have aj:∀ c' x,c'<5->x∈K c'->KeptC c' w6(setW who g6 .cur)x/\∀ g,x.1.ownBlock=some g->setW who g6 .cur g= .kept\/setW who g6 .cur g= .cur:=fun c' x hc' hx=>by
  obtain⟨k1,k2⟩:=h.kept c' hc' x hx;refine⟨?_,fun g e=> ?_⟩
  ·refine KeptC.who(who:=who) ?_(fun g e=>by rw [hW g(by rw [e];simp)];exact e);rcases k1 with k1 | ⟨g,l,cap,e,hl,hin⟩
   ·exact Or.inl k1
   ·refine Or.inr⟨g,l,cap,e,hl, ?_⟩;have aa:x.1.ownBlock=some g:=by rw [e];rfl
    have ah:∀ g,who g= .kept->w6.heap[g]?=w.heap[g]?:=fun g e=>ac g(by rw [e];simp)(by rw [e];simp)
    rcases k2 g aa with hkp | hcr
    ·exact mY hin(ah g hkp)ah
    ·by_cases ap:c'=c
     ·subst ap;by_cases ak:lv.ownBlock=some g
      ·obtain⟨ai,l',an,e5,ag⟩:=cu.ent x hx g aa hcr;rw [e5]at e;simp only [Value.slice.injEq,true_and]at e;have hl4:l<=len:=by have:=ag ak;omega
       have au:∀ k,k<l->∀ j u,(elC x.2 c')[j]?=some u->w.cell?⟨g,k*(elC x.2 c').length+j,none⟩=some u->w6.cell?⟨g,k*(elC x.2 c').length+j,none⟩=some u:=fun k hk j u hu h0=>by
        have hjl:=(List.getElem?_eq_some_iff.1 hu).1;have h2:(k+1)*(elC x.2 c').length<=len*(elC x.2 c').length:=Nat.mul_le_mul_right _(by omega);rw [Nat.succ_mul]at h2;rw [ad g ak _(by rw [<-ai];omega)];exact h0
       rw [mt(by omega)]at hin ⊢;exact fun k hk j u hu=>au k hk j u hu(hin k hk j u hu)
      ·exact mY hin(af g hcr ak)ah
     ·have:=cu.oth c' hc' ap x hx g aa;rw [hcr]at this;cases this
  ·have:=k2 g e;rw [hW g(by rcases this with e | e<;>rw [e]<;>simp)];exact this
 refine⟨⟨h.blk.same(ac b(by rw [h.wb];simp)(by rw [h.wb];simp)),h.cnt,fun c' hc'=>iJ(h.lst c' hc')(fun g e=>ac g(by rw [h.wl c' hc' g e];simp)(by rw [h.wl c' hc' g e];simp)),fun c' hc'=>iJ(h.mrk c' hc')(fun g e=>ac g(by rw [h.wm c' hc' g e];simp)(by rw [h.wm c' hc' g e];simp)),
  fun c' hc' g e=>(by rw [hW g(by rw [h.wl c' hc' g e];simp)];exact h.wl c' hc' g e),fun c' hc' g e=>(by rw [hW g(by rw [h.wm c' hc' g e];simp)];exact h.wm c' hc' g e),(by rw [hW b(by rw [h.wb];simp)];exact h.wb),fun c' hc' x hx=>aj c' x hc' hx,fun g e=> ?_⟩,
  ⟨ab,fun g e=>(by simp only [Value.ownBlock,Option.some.injEq]at e;subst e;exact jz _ _ _),fun x hx g e e2=> ?_,fun c' hc' hne x hx g e=> ?_,am⟩⟩
 ·by_cases e2:g=g6
  ·subst e2;exact⟨iw ab g rfl,iW ab g rfl⟩
  ·rw [iK _ _ e2]at e;have:=h.dom g e;exact⟨this.1,by omega⟩
 ·have ao:who g= .cur:=by
   rcases ae g e2 with e3 | e3
   ·have al:=(h.kept c(by omega)x hx).2 g e;have aw:=(h.dom g(by rcases al with e | e<;>rw [e]<;>simp)).2;subst e3;exact ar aw
   ·exact e3
  obtain⟨ai,l',an,e5,ag⟩:=cu.ent x hx g e ao;refine⟨ai,l',an,e5,fun e6=> ?_⟩;simp only [Value.ownBlock,Option.some.injEq]at e6;subst e6;rcases key with⟨k1,_⟩ | ⟨k1,_⟩
  ·have:=ag k1;omega
  ·have:=(h.dom g6(by rw [ao];simp)).2;omega
 ·have:=cu.oth c' hc' hne x hx g e;rw [hW g(by rw [this];simp)];exact this
theorem Hs.begin(h:Hs B w b who n f K M)(hc:c<4)(hk:∀ c',c'<5->∀ x∈K c',∀ g,x.1.ownBlock=some g->who g= .kept)(aa:w.ownsRow B(teC c)(elC m c).length lv len(List.replicate len(elC m c)).flatten)(hl:len<=1000)
  (ho:∀ g,lv.ownBlock=some g->who g= .other):∃ who',Hs B w b who' n f K M/\Cur B w who' m c lv len K/\(∀ g,lv.ownBlock≠some g->who' g=who g):=by
 rcases aa.2 with⟨e,_⟩ | ⟨g0,cap,cur,hv,hbb,hh,hrest⟩
 ·refine⟨who,h,⟨aa,fun g e2=>(by rw [e]at e2;cases e2),fun x hx g e2 e3=> ?_,fun c' hc' hne x hx g e2=>hk c' hc' x hx g e2,hl⟩,fun _ _=>rfl⟩;rw [hk c(by omega)x hx g e2]at e3;cases e3
 ·have ab:lv.ownBlock=some g0:=by rw [hv];rfl
  have ac:∀ c',c'<5->∀ x∈K c',∀ g,x.1.ownBlock=some g->g≠g0:=fun c' hc' x hx g e e2=>by
   have:=hk c' hc' x hx g e;subst e2;rw [ho g ab]at this;cases this
  refine⟨setW who g0 .cur,h.more(fun g e=>iK _ _(fun e2=>by subst e2;exact e(ho g ab)))(fun g e=> ?_),⟨aa,fun g e2=>(by rw [ab]at e2;simp only [Option.some.injEq]at e2;subst e2;exact jz _ _ _),fun x hx g e2 e3=> ?_,fun c' hc' hne x hx g e2=> ?_,hl⟩,fun g e=>iK _ _(fun e2=>e(by rw [e2];exact ab))⟩
  ·by_cases e2:g=g0
   ·subst e2;exact⟨hbb,(Array.getElem?_eq_some_iff.1 hh).1⟩
   ·rw [iK _ _ e2]at e;exact h.dom g e
  ·rw [iK _ _(ac c(by omega)x hx g e2),hk c(by omega)x hx g e2]at e3;cases e3
  ·rw [iK _ _(ac c' hc' x hx g e2)];exact hk c' hc' x hx g e2
def mM(who:Nat->Role):Nat->Role:=fun g=>if(who g).k=5/\(who g).c=0 then .kept else who g
theorem yY {who:Nat->Role} {g:Nat}(h:who g= .cur):mM who g= .kept:=by unfold mM;rw [h];rfl
theorem nk {who:Nat->Role} {g:Nat}(h:who g≠ .cur):mM who g=who g:=by
 unfold mM;rw [if_neg];rintro⟨h1,h2⟩;apply h;revert h1 h2
 generalize who g=r;obtain⟨k,c⟩:=r;rintro rfl rfl;rfl
theorem Hs.settled(h:Hs B w b who n f K M):Hs B w b(mM who)n f K M/\∀ c',c'<5->∀ x∈K c',∀ g,x.1.ownBlock=some g->mM who g= .kept:=by
 have aa:∀ g,who g= .kept\/who g= .cur->mM who g= .kept:=fun g e=>by
  rcases e with e | e
  ·rw [nk(by rw [e];simp)];exact e
  ·exact yY e
 refine⟨⟨h.blk,h.cnt,h.lst,h.mrk,fun c hc g e=> ?_,fun c hc g e=> ?_, ?_,fun c hc x hx=> ?_,fun g e=> ?_⟩,fun c' hc' x hx g e=>aa g((h.kept c' hc' x hx).2 g e)⟩
 ·have:=h.wl c hc g e;rw [nk(by rw [this];simp),this]
 ·have:=h.wm c hc g e;rw [nk(by rw [this];simp),this]
 ·rw [nk(by rw [h.wb];simp),h.wb]
 ·obtain⟨k1,k2⟩:=h.kept c hc x hx;exact⟨k1.who(fun g e=>aa g(Or.inl e)),fun g e=>Or.inl(aa g(k2 g e))⟩
 ·by_cases e2:who g= .cur
  ·exact h.dom g(by rw [e2];simp)
  ·rw [nk e2]at e;exact h.dom g e
theorem Fr.settled {w0:World} {who0:Nat->Role} {ex:Nat->Prop}(h:Fr w0 w who0 who ex):Fr w0 w who0(mM who)ex:=
 ⟨h.os,h.tape,h.output,h.size,fun g h1 h2 h3=>by
  obtain⟨a,b⟩:=h.oth g h1 h2 h3;exact⟨a,by rw [nk(by rw [b];simp)];exact b⟩⟩
end
end
section
open Go.RowKit
attribute [local go_sem] Go.World.cell?_alloc_some
def HsK(B:Nat)(w:World)(b:Nat)(who:Nat->Role)(n:Int)(f:Nat->Value)(K:Nat->List(Value × Int)):Prop:=
 Hs B w b who n f K(jk K)/\∀ c',c'<5->∀ x∈K c',∀ g,x.1.ownBlock=some g->who g= .kept
structure oK(c:Nat)(w w':World)(who who':Nat->Role)(f f':Nat->Value)(K K':Nat->List(Value × Int))(ex:Nat->Prop):Prop where
 fr:Fr w w' who who' ex
 lent:∀ o,o<5->f' o=f o
 len:(K' c).length=(K c).length+4
 oth:∀ c',c'≠c->K' c'=K c'
structure WrG(B c:Nat)(w0 w:World)(b:Nat)(who:Nat->Role)(n:Int)(f0 f:Nat->Value)(K:Nat->List(Value × Int))(lv:Value)(len:Nat)(xs:List Value)(m:Int)(k:Nat):Prop where
 hs:HsK B w b who n f K
 row:w.ownsRow B(teC c)(elC m c).length lv len((List.replicate k(elC m c)).flatten++xs.drop(k*(elC m c).length))
 fr:Fr w0 w who who(fun g=>lv.ownBlock=some g)
 lent:∀ o,o<5->f o=f0 o
structure KpG(B c:Nat)(w0 w:World)(b:Nat)(who0 who:Nat->Role)(n m:Int)(f0 f:Nat->Value)(K0 K:Nat->List(Value × Int))(lv:Value)(len k:Nat)(ex:Nat->Prop):Prop where
 hs:Hs B w b who n f K(jk K)
 cu:Cur B w who m c lv len K
 fr:Fr w0 w who0 who ex
 lent:∀ o,o<5->f o=f0 o
 len:(K c).length=(K0 c).length+k
 oth:∀ c',c'≠c->K c'=K0 c'
structure KpA(B c:Nat)(w0 w:World)(b:Nat)(who0 who:Nat->Role)(n m:Int)(f0 f:Nat->Value)(K0 K:Nat->List(Value × Int))(lv:Value)(len k:Nat)(ex:Nat->Prop):Prop where
 hs:Hs B w b who n f(oL K c(K c++ [(lv,m)]))(jk K)
 cu:Cur B w who m c lv len(oL K c(K c++ [(lv,m)]))
 fr:Fr w0 w who0 who ex
 lent:∀ o,o<5->f o=f0 o
 len:(K c).length=(K0 c).length+k
 oth:∀ c',c'≠c->K c'=K0 c'
theorem lS {w:World} {B:Nat} {e:TypeId} {z g n aa:Nat} {xs:List Value} {i:Nat}(h:w.ownsRow B e z(.slice(some⟨g,0,none⟩)n aa)n xs)(hi:i<n*z):∃ u,w.cell?⟨g,i,none⟩=some u:=by
 have h1:=h.1;exact⟨xs[i]'(by omega),by rw [h.cellAt i hi,List.getElem?_eq_getElem]⟩
theorem lO {w:World} {B:Nat} {e:TypeId} {z g n aa:Nat} {xs:List Value} {i:Nat}(h:w.ownsRow B e z(.slice(some⟨g,0,none⟩)n aa)n xs):w.frozen?⟨g,i,none⟩=false:=by
 rcases h.2 with⟨e,_⟩ | ⟨g',cap',cur,hv,_,hh,_⟩
 ·cases e
 ·simp only [Value.slice.injEq,Option.some.injEq,Addr.mk.injEq,true_and,and_true]at hv;obtain⟨rfl,rfl⟩:=hv;simp [World.frozen?,hh]
section
variable {B c : Nat} {w0 w w6 : World} {b : Nat} {who0 who : Nat -> Role} {n m : Int} {f0 f : Nat -> Value} {K0 K : Nat -> List (Value × Int)} {M : Nat -> List Int} {lv : Value} {len k : Nat} {ex : Nat -> Prop} {xs : List Value}
theorem HsK.setOther(h:HsK B w b who n f K) {g o:Nat} {v:Value}(hg:who g= .other):HsK B(w.setCell⟨g,o,none⟩v)b who n f K:=
 ⟨h.1.same(by simp)(fun g' _ h2 _=>Below.heap_setCell _ _ _ _(fun e=>by simp only at e;subst e;exact h2 hg)),h.2⟩
theorem HsK.grown {w':World}(h:HsK B w b who n f K)(hg:w.grownBy w' none):HsK B w' b who n f K:=⟨h.1.grown hg,h.2⟩
theorem HsK.like {w':World}(h:HsK B w b who n f K)(hl:jr w' w):HsK B w' b who n f K:=⟨h.1.like hl,h.2⟩
theorem tQ(K:Nat->List(Value × Int))(c:Nat)(v:Value)(m:Int):jk(oL K c(K c++ [(v,m)]))=wM(jk K)c(jk K c++ [m]):=by
 funext k
 unfold jk oL wM;by_cases e:k=c
 ·subst e;simp
 ·simp [e]
theorem WrG.kp(h:WrG B c w0 w b who n f0 f K lv len xs m len)(hc:c<4)(hx:xs.length=len*(elC m c).length)(hl:len<=1000)(ho:∀ g,lv.ownBlock=some g->who g= .other):
  ∃ who1,KpG B c w0 w b who who1 n m f0 f K K lv len 0(fun g=>lv.ownBlock=some g):=by
 have aa:=h.row;rw [List.drop_eq_nil_of_le(by rw [hx];exact Nat.le_refl _),List.append_nil]at aa;obtain⟨ab,h1,h2,h3⟩:=h.hs.1.begin hc h.hs.2 aa hl ho;refine⟨ab,h1,h2,⟨h.fr.os,h.fr.tape,h.fr.output,h.fr.size,fun g q1 q2 q3=> ?_⟩,h.lent,rfl,fun _ _=>rfl⟩;obtain⟨a,b⟩:=h.fr.oth g q1 q2 q3;exact⟨a,by rw [h3 g q3];exact b⟩
theorem KpG.push(h:KpG B c w0 w b who0 who n m f0 f K0 K lv len k ex)(hc:c<4) {o:Obj} {g6 c6:Nat}
  (aa:w6.ownsRow B(tlC c)1(.slice(some⟨g6,0,none⟩)((K c).length+1)c6)((K c).length+1)((K c).map(·.1)++ [lv]))
  (key:((f(6+2*c)).ownBlock=some g6/\(w.alloc o).grownBy w6(some g6))\/(g6=w.heap.size+1/\(w.alloc o).grownBy w6 none)):
  HB w6 b f/\∃ who' f',KpA B c w0(w6.setCell⟨b,6+2*c,none⟩(.slice(some⟨g6,0,none⟩)((K c).length+1)c6))b who0 who' n m f0 f' K0 K lv len k ex/\f'(7+2*c)=f(7+2*c):=by
 obtain⟨hsz,ac,hsr,h6r⟩:=kH key(fun g e=>(h.hs.dom g e).2)(r:= .lst c)(by simp)(h.hs.wl c(by omega));have ab:HB w6 b f:=h.hs.blk.same(ac b(by rw [h.hs.wb];simp)(by rw [h.hs.wb];simp)).1;obtain⟨h1,h2⟩:=h.hs.push h.cu hc aa key;refine⟨ab,_,_,⟨h1,h2, ?_,fun o ho=>by rw [iT _ _(by omega)];exact h.lent o ho,h.len,h.oth⟩,iT _ _(by omega)⟩;refine(h.fr.trans(Fr.key(r:= .lst c)(fun g e=>by rw [h.hs.wl c(by omega)g e];simp)key)).trans(Fr.set(Or.inl ?_));have:=h1.wb;rw [this];simp
theorem KpA.tell(h:KpA B c w0 w b who0 who n m f0 f K0 K lv len k ex)(hc:c<4) {M1:Option Addr} {N M3:Nat}(eM:f(7+2*c)= .slice M1 N M3)(hN:(K c).length=N) {o:Obj} {g6 c6:Nat}
  (aa:w6.ownsRow B 3 1(.slice(some⟨g6,0,none⟩)(N+1)c6)(N+1)(iI((K c).map(·.2))++ [.int .i64 m]))
  (key:((Value.slice M1 N M3).ownBlock=some g6/\(w.alloc o).grownBy w6(some g6))\/(g6=w.heap.size+1/\(w.alloc o).grownBy w6 none)):
  HB w6 b f/\∃ who' f',KpG B c w0(w6.setCell⟨b,7+2*c,none⟩(.slice(some⟨g6,0,none⟩)(N+1)c6))b who0 who' n m f0 f' K0(oL K c(K c++ [(lv,m)]))lv len(k+1)ex:=by
 rw [<-eM]at key;obtain⟨hsz,ad,hsr,h6r⟩:=kH key(fun g e=>(h.hs.dom g e).2)(r:= .mrk c)(by simp)(h.hs.wm c(by omega));have ab:HB w6 b f:=h.hs.blk.same(ad b(by rw [h.hs.wb];simp)(by rw [h.hs.wb];simp)).1;have ac:(jk K c).length=N:=by simp [jk,hN]
 obtain⟨h1,h2⟩:=h.hs.tell h.cu hc(w6:=w6)(g6:=g6)(c6:=c6)(o:=o)(by rw [ac];exact aa)key;rw [ac]at h1 h2;refine⟨ab,_,_,⟨by rw [tQ];exact h1,h2, ?_,fun o ho=>by rw [iT _ _(by omega)];exact h.lent o ho,by rw [nI,List.length_append,h.len];simp;omega,fun c' hc'=>by rw [nL _ _ hc'];exact h.oth c' hc'⟩⟩;refine(h.fr.trans(Fr.key(r:= .mrk c)(fun g e=>by rw [h.hs.wm c(by omega)g e];simp)key)).trans(Fr.set(Or.inl ?_));have:=h1.wb;rw [this];simp
theorem KpG.grow(h:KpG B c w0 w b who0 who n m f0 f K0 K lv len k ex)(hc:c<4)(ab:len+1<=1000) {o:Obj} {g6 c6:Nat}
  (aa:w6.ownsRow B(teC c)(elC m c).length(.slice(some⟨g6,0,none⟩)(len+1)c6)(len+1)((List.replicate len(elC m c)).flatten++elC m c))
  (key:(lv.ownBlock=some g6/\(w.alloc o).grownBy w6(some g6))\/(g6=w.heap.size+1/\(w.alloc o).grownBy w6 none)):
  ∃ who',KpG B c w0 w6 b who0 who' n m f0 f K0 K(.slice(some⟨g6,0,none⟩)(len+1)c6)(len+1)k ex:=by
 obtain⟨h1,h2⟩:=h.hs.grow h.cu hc ab aa key;exact⟨_,h1,h2,h.fr.trans(Fr.key(fun g e=>by rw [h.cu.wc g e];simp)key),h.lent,h.len,h.oth⟩
theorem KpG.done(h:KpG B c w0 w b who0 who n m f0 f K0 K lv len 4 ex):∃ who' f' K',HsK B w b who' n f' K'/\oK c w0 w who0 who' f0 f' K0 K' ex:=
 ⟨mM who,f,K,⟨h.hs.settled.1,h.hs.settled.2⟩,⟨h.fr.settled,h.lent,h.len,h.oth⟩⟩
end
theorem tk {B:Nat} {w:World} {b:Nat} {who:Nat->Role} {n:Int} {f:Nat->Value} {K:Nat->List(Value × Int)} {M:Nat->List Int}(h:Hs B w b who n f K M)(h0:0<=n)(h1:n<=10000000000000):
  Calls Tryz.prog 55 #[pt b]w fun e w'=>e= .returned(.int .i64(-77000000 - (n+1)))/\w'=w.setCell⟨b,5,none⟩(.int .i64(n+1)):=by
 have c5:w.cell?⟨b,5,none⟩=some(.int .i64 n):=by rw [h.blk.cell(by omega),h.cnt]
 have f5:=h.blk.frozen 5;have c6:(w.setCell⟨b,5,none⟩(.int .i64(n+1))).cell?⟨b,5,none⟩=some(.int .i64(n+1)):=by rw [(h.blk.set(by omega)(.int .i64(n+1))).cell(by omega),lQ]
 have aa:pt b= .pointer(some⟨b,0,none⟩):=rfl;rw [aa];clear h aa;go_enter Tryz.func55,Tryz.ntmps55
 go_wp2_with fail
 go_ret;exact⟨rfl,rfl⟩
end
end Go.Proofs.YtklenjmfalljgabGreatDoor
