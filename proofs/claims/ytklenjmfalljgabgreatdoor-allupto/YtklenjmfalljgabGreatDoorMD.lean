/- The texts Hgg Hgh Hgi Hgj Hgk Hgl Hgm. -/
import Derived.Test.YtklenjmfalljgabGreatDoorMC
namespace Go.Proofs.YtklenjmfalljgabGreatDoor
set_option maxRecDepth 100000
set_option maxHeartbeats 8000000
section
open Go.RowKit
attribute [local go_sem] Go.World.cell?_alloc_some
theorem my{w w':World}{who d:Nat->Role}{v:Value}{l:List Int}(h:IntsAt w.heap.size w v l)(b:valOther who v)(a:Fr w w' who d (fun _=>False)):IntsAt w'.heap.size w' v l/\valOther d v:=by
 refine⟨sy h b a.size (fun g h1 h2=>(a.oth g h1 h2 (fun e=>e)).1),b.mono (fun g e o l' c' e2 hl'=>?_)⟩;obtain⟨ao',cap',f,_,i⟩:=h;rw [f]at e2;simp only [Value.slice.injEq]at e2;obtain⟨g',o',c,e6,_⟩:=i 0 (by omega);rw [e2.1]at c;simp only [Option.some.injEq,Addr.mk.injEq,and_true]at c;exact(a.oth g (by omega) e (fun e=>e)).2
theorem lV(B:Nat)(w:World)(b:Nat)(who:Nat->Role)(n:Int)(f:Nat->Value)(K:Nat->List (Value × Int))(c:List (Nat × List Int × Value))(m:List (Nat × List Ins × Value))(i:List (Nat × Nat))(tail:Nat)(D:Value)(l:List Int)
  (h:Lx B w b who n f K (EL c m i) c m i tail) (hI:IntsAt w.heap.size w D l) (aN:valOther who D) (bC:l.length<=17592186043904) (ax:c.length<=1000):
  Calls Tryz.prog 20 #[pt b,D] w fun e w'=>∃ g who' f',e= .returned (.slice (some ⟨g,0,none⟩) l.length (l.length+2))/\Lx B w' b who' n f' K (EL (c++[(g,l,D)]) m i) (c++[(g,l,D)]) m i tail/\Fr w w' who who' (fun _=>False):=by
 obtain⟨i0,aV,bx,aF,bn⟩:=info_parts ko;obtain⟨i1,aL,aR,aP,aM⟩:=info_parts uj;have HH:=ij h;have O:=ij hI;have HV:=ij aN;have hb:=h.low;obtain⟨d,p,rfl⟩:=hI.form;have a2:pt b= .pointer (some ⟨b,0,none⟩):=rfl;rw [a2];clear h hI a2 aN;have q0:(l.length:Int)<=17592186043904:=by omega
 have q1:(0:Int)<=(l.length:Int):=by omega
 have br:(Tryz.prog.info? 3).map (·.size)=some 1:=by rw [aV];simp [aF]
 go_enter Tryz.func20,Tryz.ntmps20
 go_upto_region 3 with (at_make;refine wpList_make_full _ rfl _ _ _ rfl w.heap.size 3 i0 _ 1 Tryz.underlying39 aV bx aF .i64 .i64 _ _ (l.length+2) rfl rfl (by simp) (by simp) (by rw [bn];omega) (by unfold maxLen;omega) (by simp) ?_;intro A aC J)
 have bw:∃ cur,A.heap[w.heap.size]?=some (.cells cur 3 (0,0))/\cur.size=l.length+2:=by
  rcases aC.2 with ⟨e,_⟩ | ⟨g',bm,cur,hv,_,hh,_,_,hcs,_⟩
  ·cases e
  ·simp only [Value.slice.injEq,Option.some.injEq,Addr.mk.injEq,true_and,and_true]at hv;obtain⟨rfl,rfl⟩:=hv;exact⟨cur,hh,by simpa using hcs⟩
 obtain⟨cur,aw,bv⟩:=bw;have y:=ij J;have bt:Hid (IntsAt A.heap.size A (.slice d l.length p) l):=(O.out.pres (ip J)).mono J.size;have bu:=ij aw;clear aC J aw;obtain⟨q,bL,z,v⟩:=tJ A 39 3 3 Tryz.underlying39 br w.heap.size (l.length+2) (l.length+2) (.slice d l.length p) A.heap.size l bt.out cur 3 bu.out (by omega) (by omega);go_upto_region 4 with fail
 clear bL;have bk:Hid (w.grownBy q none):=⟨v.os.trans y.out.os,v.tape.trans y.out.tape,v.output.trans y.out.output,Nat.le_trans y.out.size v.size,fun k hk _=>by
  rw [v.block k (Nat.lt_of_lt_of_le hk y.out.size) (by simp;omega)];exact y.out.block k hk (by simp)⟩
 have a6:w.heap.size<q.heap.size:=(Array.getElem?_eq_some_iff.1 z).1;obtain⟨R,H⟩:∃ R:Array Value,R=(iL l++cur.toList.drop l.length).toArray:=⟨_,rfl⟩;rw [<-H]at z;have hRs:R.size=l.length+2:=by rw [H];simp [jZ];omega
 have bc:Hid ((R.setIfInBounds l.length ink).setIfInBounds (l.length+1) ink=kr l):=by unfold Hid;rw [H];exact DM l cur bv
 have S:=heap_setCell_same q w.heap.size l.length R 3 ink z;have Z:=heap_setCell_same _ w.heap.size (l.length+1) _ 3 ink S;rw [bc.out]at Z;have d0:∃ u,q.cell? ⟨w.heap.size,l.length,none⟩=some u:=by
  refine⟨R[l.length]'(by omega),?_⟩;simp [World.cell?,z]
 have P:∃ u,(q.setCell ⟨w.heap.size,l.length,none⟩ ink).cell? ⟨w.heap.size,l.length+1,none⟩=some u:=by
  refine⟨(R.setIfInBounds l.length ink)[l.length+1]'(by simp;omega),?_⟩;simp only [World.cell?,S];exact Array.getElem?_eq_getElem _
 obtain⟨u0,d0⟩:=d0;obtain⟨u1,P⟩:=P;have f0:q.frozen? ⟨w.heap.size,l.length,none⟩=false:=by simp [World.frozen?,z]
 have f1:(q.setCell ⟨w.heap.size,l.length,none⟩ ink).frozen? ⟨w.heap.size,l.length+1,none⟩=false:=by simp [World.frozen?,S]
 obtain⟨a,s⟩:∃ a,a=(q.setCell ⟨w.heap.size,l.length,none⟩ ink).setCell ⟨w.heap.size,l.length+1,none⟩ ink:=⟨_,rfl⟩;have M:w.grownBy a none:=by rw [s];exact iF (iF bk.out (Nat.le_refl _)) (Nat.le_refl _)
 have bz:Hid (a.heap[w.heap.size]?=some (.cells (kr l) 3 (0,0))):=by rw [s];exact Z
 have a5:w.heap.size<a.heap.size:=by rw [s];simpa using a6
 have bG:ink= .int .i64 (-77000000):=rfl;rw [bG]at s P f1;have aU:=ij s;obtain⟨aS,aX⟩:=HH.out.new M (Nat.le_refl _) a5;have ba:Hid (w.heap.size∉c.map (·.1)++(m.map (·.1)++i.map (·.1))):=fun e=>by have:=(HH.out.le.lt _ e).1;omega
 have aB:Hid (IntsAt a.heap.size a (.slice d l.length p) l):=(O.out.pres (ip M)).mono M.size;have aH:Hid (valOther (setW who w.heap.size .lent) (.slice d l.length p)):=by
  refine HV.out.mono (fun g e o l' c' e2 hl'=>?_);rw [iN]
  ·exact e
  ·intro e3;subst e3;obtain⟨ao',bm,e4,_,h5⟩:=O.out;simp only [Value.slice.injEq]at e2 e4;obtain⟨g',o',e5,e6,_⟩:=h5 0 (by omega);rw [<-e4.1,e2.1]at e5;simp only [Option.some.injEq,Addr.mk.injEq,and_true]at e5;omega
 have G:=ij aS;have aA:=ij aX;have HW:Hid (setW who w.heap.size .lent w.heap.size= .lent):=jC _ _ _;have bI:=ij (Eo c m i w.heap.size l (.slice d l.length p));have hE0:(EL c m i 0).length<=1000:=by simp only [EL,List.length_map];exact ax
 have bj:(EL c m i 1).length<=1000:=by simp only [EL,List.length_map];exact ax
 clear z v H S Z s aS aX M O HV HH;generalize setW who w.heap.size .lent=who5 at*;generalize EL c m i=E at*;generalize aQ:w.heap.size=g0 at*;have HG0:=ij aQ;clear aQ;go_upto_region 6 with fail
 rw [<-aU.out];clear aU d0 P f0 f1;have F:a.ownsRow B 39 1 (f 0) (E 0).length (E 0):=G.out.lr.r 0 (by omega);have c0:a.cell? ⟨b,0,none⟩=some (f 0):=G.out.cell (by omega);obtain⟨o1,o2,V,Q⟩:=iw F;rw [Q]at F c0;have bD:=iB F;subst bD;have Y:Hid (∀ {o:Obj} {g6 c6:Nat} {w6:World},w6.ownsRow B 39 1 (.slice (some ⟨g6,0,none⟩) ((E 0).length+1) c6) ((E 0).length+1) (E 0++[sl2 g0 l.length])->
   (((Value.slice o1 (E 0).length V).ownBlock=some g6/\(a.alloc o).grownBy w6 (some g6))\/(g6=a.heap.size+1/\(a.alloc o).grownBy w6 none))->
   HB w6 b f/\∃ who' f',Lx B (w6.setCell ⟨b,0,none⟩ (.slice (some ⟨g6,0,none⟩) ((E 0).length+1) c6)) b who' n f' K (kF E 0 (E 0++[sl2 g0 l.length])) c m i tail/\
   Fr a (w6.setCell ⟨b,0,none⟩ (.slice (some ⟨g6,0,none⟩) ((E 0).length+1) c6)) who5 who' (fun _=>False)/\(∀ j,j≠0->f' j=f j)/\(∀ g,who5 g= .lent->(w6.setCell ⟨b,0,none⟩ (.slice (some ⟨g6,0,none⟩) ((E 0).length+1) c6)).heap[g]?=a.heap[g]?/\who' g= .lent)):=by
  intro o g6 c6 w6 W key;rw [<-Q]at key;exact G.out.push (by omega) W key
 have hbase:B<=a.heap.size:=by have:=G.out.low;omega
 have aJ:=ij F;have au:=ij Q;have bM:(E 0).length+1<=maxLen:=by unfold maxLen;omega
 have av:(E 1).length+1<=maxLen:=by unfold maxLen;omega
 clear F Q;have a1:Hid (kF E 0 (E 0++[sl2 g0 l.length]) 1=E 1):=vr _ _ (by omega);generalize bJ:(E 0).length=N0 at*;generalize bd:E 0=L0 at*;clear bJ bd;go_upto_region 7 with (at_builtin;go_must (refine iG rfl _ _ _ rfl B 39 i1 _ 1 24 Tryz.underlying23 aL aR aP aM rfl (by omega) (.slice o1 N0 V) N0 L0 rfl (iJ aJ.out) ⟨a.heap.size,0,none⟩ 1 1 [sl2 g0 l.length] rfl rfl (World.news_of_block (cs:= #[.slice (some ⟨g0,0,none⟩) (l.length+2) (l.length+2)]) (t:=39) (fr:=(0,0)) (heap_alloc_new a _)) (by simp [sl2,Value.oneCell']) (by omega) bM (by omega) (by simp;omega) (a.heap.size+1) (by simp) ?_);intro g8 bl w8 ar af a8;have ah:=(Y.out ar af).1;have X:w8.cell? ⟨b,0,none⟩=some (.slice o1 N0 V):=(by rw [ah.cell (by omega),au.out]);have p7:=ah.frozen 0)
 obtain⟨_,ap,L,x,U,bK,aD⟩:=Y.out ar af;generalize w8.setCell ⟨b,0,none⟩ (.slice (some ⟨g8,0,none⟩) (N0+1) bl)=w9 at*;generalize kF E 0 (L0++[sl2 g0 l.length])=E9 at*;rw [<-a1.out]at bj av;have C:w9.ownsRow B 39 1 (L 1) (E9 1).length (E9 1):=x.lr.r 1 (by omega);have c1:w9.cell? ⟨b,1,none⟩=some (L 1):=x.cell (by omega);obtain⟨m1,m2,m3,N⟩:=iw C;rw [N]at C c1;have bB:=iB C;subst bB;have aj:Hid (∀ {o:Obj} {g6 c6:Nat} {w6:World},w6.ownsRow B 39 1 (.slice (some ⟨g6,0,none⟩) ((E9 1).length+1) c6) ((E9 1).length+1) (E9 1++[.slice d l.length p])->
   (((Value.slice m1 (E9 1).length m3).ownBlock=some g6/\(w9.alloc o).grownBy w6 (some g6))\/(g6=w9.heap.size+1/\(w9.alloc o).grownBy w6 none))->
   HB w6 b L/\∃ who' f',Lx B (w6.setCell ⟨b,1,none⟩ (.slice (some ⟨g6,0,none⟩) ((E9 1).length+1) c6)) b who' n f' K (kF E9 1 (E9 1++[.slice d l.length p])) c m i tail/\
   Fr w9 (w6.setCell ⟨b,1,none⟩ (.slice (some ⟨g6,0,none⟩) ((E9 1).length+1) c6)) ap who' (fun _=>False)/\(∀ j,j≠1->f' j=L j)/\(∀ g,ap g= .lent->(w6.setCell ⟨b,1,none⟩ (.slice (some ⟨g6,0,none⟩) ((E9 1).length+1) c6)).heap[g]?=w9.heap[g]?/\who' g= .lent)):=by
  intro o g6 c6 w6 W key;rw [<-N]at key;exact x.push (by omega) W key
 have hbase9:B<=w9.heap.size:=by have:=x.low;omega
 have aT:=ij C;have ay:=ij N;have bH:=ij x;have aW:=ij (aA.out.trans U);have aG:=ij (aD g0 HW.out);have am:Hid (IntsAt w9.heap.size w9 (.slice d l.length p) l/\valOther ap (.slice d l.length p)):=my aB.out aH.out U;clear C N ar af ah X p7 a8 c0 x U bK aD Y aJ au G aA aB aH a1;generalize bb:(E9 1).length=N1 at*;generalize hL1:E9 1=L1 at*;clear bb;go_upto_region 8 with (at_builtin;go_must (refine iG rfl _ _ _ rfl B 39 i1 _ 1 24 Tryz.underlying23 aL aR aP aM rfl (by omega) (.slice m1 N1 m3) N1 L1 rfl (iJ aT.out) ⟨w9.heap.size,0,none⟩ 1 1 [.slice d l.length p] rfl rfl (World.news_of_block (cs:= #[.slice d l.length p]) (t:=39) (fr:=(0,0)) (heap_alloc_new w9 _)) (by simp [Value.oneCell']) (by omega) av (by omega) (by simp;omega) (w9.heap.size+1) (by simp) ?_);intro bF bE aI an ai be;have ac:=(aj.out an ai).1;have X:aI.cell? ⟨b,1,none⟩=some (.slice m1 N1 m3):=(by rw [ac.cell (by omega),ay.out]);have p7:=ac.frozen 1)
 obtain⟨_,T,aZ,I,aa,bh,aO⟩:=aj.out an ai;generalize aI.setCell ⟨b,1,none⟩ (.slice (some ⟨bF,0,none⟩) (N1+1) bE)=w11 at*;have a0:Hid (Lx B w11 b T n aZ K (EL (c++[(g0,l,.slice d l.length p)]) m i) (c++[(g0,l,.slice d l.length p)]) m i tail/\Fr w w11 who T (fun _=>False)):=by
  obtain⟨bo,bp⟩:=my am.out.1 am.out.2 aa;have hl:=aO g0 aG.out.2;refine⟨⟨I.hs,?_,I.le.addInts (by rw [hl.1,aG.out.1];exact bz.out) hl.2 bo bp bC ba.out⟩,aW.out.trans aa⟩;have:=I.lr;rw [bI.out]at this;exact this
 clear an ai ac X p7 be c1 I aa bh aO aj aT ay bH aW am;have q2:(l.length:Int)<=(l.length:Int)+2:=by omega
 go_wp2_with fail
 go_ret;exact⟨g0,T,aZ,rfl,a0.out.1,a0.out.2⟩
end
section
open Go.RowKit
section
variable {P : Program}
theorem tj(w:World)(l r ty f:TypeId)(g c m:Nat)(a:Addr)(b q d:Nat)(cur:Array Value)(t:TypeId)(cs:List Value)
  (y:P.underlying l=some (.slice f)) (k:(P.info? f).map (·.size)=some d)
  (s:w.heap[g]?=some (.cells cur t (0,0))) (p:cs.length=Nat.min b c*d)
  (x:∀ j v,cs[j]?=some v->w.cell? (a.add j)=some v) (hfit:cs.length<=cur.size) (n:∀ v∈cs,v.oneCell'=true):
  (Builtin.copy_ #[l,r] ty #[.slice (some ⟨g,0,none⟩) c m,.slice (some a) b q]).run P w=
   .ok (goInt (Nat.min b c)) (w.setRow g (cs++cur.toList.drop cs.length).toArray):=by
 have u:=run_loadCells_list (P:=P) w a cs x;have h:=run_storeCells_at P g 0 t cs 0 cur w s (by omega) n;have e:(cur.toList.take (0+0)++cs++cur.toList.drop (0+0+cs.length))=cs++cur.toList.drop cs.length:=by simp
 rw [e]at h;cases hq:P.info? f with
 | none=>simp [hq]at k
 | some i=>
  have o:i.size=d:=by simpa [hq]using k
  simp [Builtin.copy_,run_underlying y,Builtin.lenOf,Builtin.firstCells,sizeOf,typeInfo,hq,o,<-p,u,h]
theorem rV{w:World}{o:Oper}{a:Act}{K:Act->World->Prop}{Q:Exit->Act->World->Prop}(s x:Operand)(t:TypeId)
  (Y:o.op= .call { callee:= .builtin .append,args:= #[s,x],argTypes:= #[t,t]})
  (base:Nat) (e:TypeId) (i:TypeInfo) (z:Value) (b E:Nat) (C:P.underlying t=some (.slice e)) (r:P.info? e=some i) (G:i.zero=some z)
  (B:i.size=b) (F:i.bytes=E) (ab:z.cells.size=b) (X:0<b)
  (v:Value) (n:Nat) (xs:List Value) (U:a.eval s=v) (l:w.ownsRow base e b v n xs)
  (q:Addr) (m c:Nat) (f:List Value) (O:a.eval x= .slice (some q) m c) (D:f.length=m*b) (A:∀ j u,f[j]?=some u->w.cell? (q.add j)=some u) (I:∀ u∈f,u.oneCell'=true)
  (Z:0<m) (L:n+m<=maxLen) (M:(n+m)*E<=140737488355328) (aa:base<=w.heap.size) (H:Nat) (J:w.heap.size=H)
  (h:∀ g cap w',w'.ownsRow base e b (.slice (some ⟨g,0,none⟩) (n+m) cap) (n+m) (xs++f)->((v.ownBlock=some g/\w.grownBy w' (some g))\/(g=H/\w.grownBy w' none))->g<w'.heap.size->K (a.put o.dst (.slice (some ⟨g,0,none⟩) (n+m) cap)) w'):o.wp P a w K Q:=by
 obtain⟨g,cap,w',y,N,R,p,T⟩:=run_append_lies (P:=P) w t o.type base e i z b E C r G B F ab X v n xs l q m c f D A I Z L M aa H J;have key:(v.ownBlock=some g/\w.grownBy w' (some g))\/(g=H/\w.grownBy w' none):=by
  have hsmall:n+m<=9223372036854775807:=by simp only [maxLen]at L;omega
  rcases l.2 with ⟨rfl,rfl⟩ | ⟨g0,cap0,cur,rfl,hbg,hg,hnc,hcm,hcs,htake⟩
  ·rcases p with p | p
   ·cases p
   ·exact Or.inr ⟨p,R⟩
  ·by_cases V:n+m<=cap0
   ·obtain⟨w2,d,h6,W⟩:=run_append_fits (P:=P) w base t o.type e i b C r B g0 n cap0 xs l q m c f D A I V;rw [y]at d;simp only [Result.ok.injEq,Value.slice.injEq,Option.some.injEq,Addr.mk.injEq,true_and,and_true]at d;obtain⟨⟨rfl,rfl⟩,rfl⟩:=d;exact Or.inl ⟨rfl,W⟩
   ·subst B;subst F;have S:∀ j u,xs[j]?=some u->w.cell? ((⟨g0,0,none⟩:Addr).add j)=some u:=l.cells (g:=g0) rfl;have d:=run_append_grow (P:=P) w t o.type e i z C r G ⟨g0,0,none⟩ n cap0 xs l.1 S q m c f D A (by omega) (by omega) (growslice_fits (by omega) M);rw [y]at d;simp only [Result.ok.injEq,Value.slice.injEq,Option.some.injEq,Addr.mk.injEq,true_and,and_true]at d;obtain⟨⟨rfl,rfl⟩,rfl⟩:=d;exact Or.inr ⟨J,⟨rfl,rfl,rfl,by simp,fun k hk _=>Below.heap_alloc w.drew _ k hk⟩⟩
 unfold Oper.wp execOp;simp only [Y,resolve,invoke,builtin,Sem.run_bind,Sem.run_pure,Result.andThen_ok,List.map_toArray,List.map_cons,List.map_nil,U,O,y];exact h g cap w' N key T
end
def kH(c:List Ins):List Value:=c.flatMap tX
theorem lu(c:List Ins):(kH c).length=c.length*4:=by
 induction c with
 | nil=>rfl
 | cons i c ih=>simp only [kH,List.flatMap_cons,List.length_append]at*;rw [ih];simp [tX];omega
theorem AW(c:List Ins):∀ v∈kH c,v.oneCell'=true:=by
 intro v a;simp only [kH,List.mem_flatMap,tX,List.mem_cons,List.not_mem_nil,or_false]at a;obtain⟨i,_,rfl | rfl | rfl | rfl⟩:=a<;>rfl
theorem qU:∀ (c:List Ins) (k:Nat) (hk:k<c.length),(kH c)[k*4]?=some (.int .i64 c[k].op)/\(kH c)[k*4+1]?=some (.int .i64 c[k].a)/\(kH c)[k*4+2]?=some (.int .i64 c[k].b)/\(kH c)[k*4+3]?=some (.int .i64 c[k].n)
 | [],k,hk=>by simp at hk
 | i::c,0,hk=>by simp [kH,tX]
 | i::c,k+1,hk=>by
  have h:=qU c k (by simpa using hk);have e:kH (i::c)=tX i++kH c:=by simp [kH]
  have e4:∀ j,(kH (i::c))[(k+1)*4+j]?=(kH c)[k*4+j]?:=fun j=>by
   rw [e,List.getElem?_append_right (by simp [tX];omega)];congr 1
   simp [tX];omega
  refine⟨?_,?_,?_,?_⟩
  ·have:=e4 0;simp only [Nat.add_zero]at this;rw [this];simpa using h.1
  ·rw [e4 1];simpa using h.2.1
  ·rw [e4 2];simpa using h.2.2.1
  ·rw [e4 3];simpa using h.2.2.2
theorem wQ{w:World}{f:Addr}{p:Nat}{c:List Ins}(h:CodeAt w (.slice (some f) c.length p) c):∀ j v,(kH c)[j]?=some v->w.cell? (f.add j)=some v:=by
 intro j v b;have n:=(List.getElem?_eq_some_iff.1 b).1;rw [lu]at n;obtain⟨ao,cap',e,h⟩:=h;have d:j / 4<c.length:=by omega
 obtain⟨g,o,rfl,l,r,s,m⟩:=h (j / 4) d;simp only [Value.slice.injEq,Option.some.injEq]at e;obtain⟨rfl,_⟩:=e;have i:(⟨g,o,none⟩:Addr).add j=⟨g,o+j,none⟩:=by unfold Addr.add;split<;>simp_all
 obtain⟨g1,g2,k,q⟩:=qU c (j / 4) d;rw [i];rcases(by omega:j % 4=0\/j % 4=1\/j % 4=2\/j % 4=3)with h0 | h0 | h0 | h0
 ·have a:j=j / 4*4:=by omega
  rw [a,g1]at b;rw [a];rw [l];exact b
 ·have a:j=j / 4*4+1:=by omega
  rw [a,g2]at b;rw [a,<-Nat.add_assoc];rw [r];exact b
 ·have a:j=j / 4*4+2:=by omega
  rw [a,k]at b;rw [a,<-Nat.add_assoc];rw [s];exact b
 ·have a:j=j / 4*4+3:=by omega
  rw [a,q]at b;rw [a,<-Nat.add_assoc];rw [m];exact b
theorem tU{P:Program}(w:World)(t ty h:TypeId)(m:P.underlying t=some (.slice h))(j:(P.info? h).map (·.size)=some 4)(g b n:Nat)(sv:Value)(c:List Ins)(p:CodeAt w sv c)(cur:Array Value)(f:TypeId)(l:w.heap[g]?=some (.cells cur f (0,0)))(q:c.length<=b)(u:c.length*4<=cur.size):
  ∃ w',(Builtin.copy_ #[t,t] ty #[.slice (some ⟨g,0,none⟩) b n,sv]).run P w= .ok (goInt c.length) w'/\w'.heap[g]?=some (.cells (kH c++cur.toList.drop (c.length*4)).toArray f (0,0))/\w.grownBy w' (some g):=by
 have v:=p;obtain⟨x,s,e,hc⟩:=p;subst e;by_cases y:c.length=0
 ·have B:c=[]:=List.length_eq_zero_iff.1 y;subst B;refine⟨w,?_,?_,ir _ _⟩
  ·cases hq:P.info? h with
   | none=>simp [hq]at j
   | some i=>
    have hi:i.size=4:=by simpa [hq]using j
    cases x with
    | none=>simp [Builtin.copy_,run_underlying m,Builtin.lenOf,Builtin.firstCells,sizeOf,typeInfo,hq,storeCells]
    | some a=>simp [Builtin.copy_,run_underlying m,Builtin.lenOf,Builtin.firstCells,sizeOf,typeInfo,hq,storeCells,loadCells,loadCellsFrom]
  ·rw [l];simp [kH]
 ·obtain⟨z,A,r,_⟩:=hc 0 (by omega);subst r;have o:Nat.min c.length b=c.length:=Nat.min_eq_left q;have d:=tj (P:=P) w t t ty h g b n ⟨z,A,none⟩ c.length s 4 cur f (kH c) m j l (by rw [lu,o]) (wQ v) (by rw [lu];exact u) (AW c);rw [o,lu]at d;exact⟨_,d,setRow_heap w g cur _ f (0,0) l,⟨rfl,rfl,rfl,by simp,fun k hk d=>setRow_other w g k _ (fun e=>d (by rw [e]))⟩⟩
theorem vZ(l:List Nat)(j:Nat):(l.take j).sum<=l.sum:=by
 conv=>rhs;rw [<-List.take_append_drop j l,List.sum_append]
 omega
theorem tY(l:List Nat)(j:Nat)(a:j<l.length):(l.take j).sum+l[j]<=l.sum:=by
 have:=vZ l (j+1);rw [List.take_succ_eq_append_getElem a,List.sum_append]at this;simpa using this
section
variable {B : Nat} {w w' : World} {b : Nat} {who who' : Nat -> Role} {n : Int} {f : Nat -> Value} {K : Nat -> List (Value × Int)} {E : Nat -> List Value} {LI : List (Nat × List Int × Value)} {LC : List (Nat × List Ins × Value)} {LR : List (Nat × Nat)} {tail : Nat}
theorem Le.row_in(h:Le w who LI LC LR tail)(j:Nat)(b:j<LR.length):((LR.take j).map (·.2)).sum+LR[j].2<=LC.length:=by
 have a:=tY (LR.map (·.2)) j (by simpa using b);have h2:=h.sum;rw [<-List.map_take]at a;simp only [List.getElem_map]at a;omega
theorem Le.addCode(h:Le w who LI LC LR tail){g:Nat}{c:List Ins}{l:Value}(p:w.heap[g]?=some (.cells (ke c) 65 (0,0)))(r:who g= .lent)(t:CodeAt w l c)(m:valOther who l)(s:c.length<=4398046510976)
  (d:g∉LI.map (·.1)++(LC.map (·.1)++LR.map (·.1))):Le w who LI (LC++[(g,c,l)]) LR (tail+1):=by
 refine⟨h.li,fun x a=>?_,fun j hj=>?_,by have:=h.sum;simp;omega,?_⟩
 ·rcases List.mem_append.1 a with a | a
  ·exact h.lc x a
  ·simp at a;subst a;exact⟨p,r,t,m,s⟩
 ·obtain⟨k,f,i⟩:=h.lr j hj;have h1:=h.row_in j hj;refine⟨?_,f,i⟩;rw [k];congr 2
  rw [List.drop_append_of_le_length (by omega),List.take_append_of_le_length (by rw [List.length_drop];omega)]
 ·have:=h.nd;simp only [List.map_append,List.map_cons,List.map_nil,List.append_assoc,List.singleton_append];simp only [List.mem_append,not_or]at d;rw [List.nodup_append]at this ⊢;obtain⟨k,f,i⟩:=this;rw [List.nodup_append]at f;obtain⟨o,n,q⟩:=f;refine⟨k,?_,?_⟩
  ·rw [List.nodup_append];refine⟨o,?_,?_⟩
   ·rw [List.nodup_cons];exact⟨d.2.2,n⟩
   ·intro x a y b;rcases List.mem_cons.1 b with rfl | b
    ·intro e;subst e;exact d.2.1 a
    ·exact q x a y b
  ·intro x a y b;rcases List.mem_append.1 b with b | b
   ·exact i x a y (List.mem_append.2 (Or.inl b))
   ·rcases List.mem_cons.1 b with rfl | b
    ·intro e;subst e;exact d.1 a
    ·exact i x a y (List.mem_append.2 (Or.inr b))
theorem Le.addRow(h:Le w who LI LC LR tail){g:Nat}(o:w.heap[g]?=some (.cells (jA (LC.drop ((LR.map (·.2)).sum))) 66 (0,0)))(q:who g= .lent)(r:tail<=5864062014634)
  (c:g∉LI.map (·.1)++(LC.map (·.1)++LR.map (·.1))):Le w who LI LC (LR++[(g,tail)]) 0:=by
 have hsum:=h.sum;refine⟨h.li,h.lc,fun j hj=>?_,by simp;omega,?_⟩
 ·by_cases e:j<LR.length
  ·obtain⟨i,d,f⟩:=h.lr j e;rw [List.getElem_append_left e,List.take_append_of_le_length (by omega)];exact⟨i,d,f⟩
  ·have n:j=LR.length:=by simp at hj;omega
   subst n;have k:(LR++[(g,tail)])[LR.length]'hj=(g,tail):=by simp
   rw [k,List.take_append_of_le_length (Nat.le_refl _),List.take_length,List.take_of_length_le (by rw [List.length_drop];omega)];exact⟨o,q,r⟩
 ·have:=h.nd;simp only [List.mem_append,not_or]at c;simp only [List.map_append,List.map_cons,List.map_nil];rw [List.nodup_append]at this ⊢;obtain⟨i,d,f⟩:=this;rw [List.nodup_append]at d;obtain⟨m,l,p⟩:=d;refine⟨i,?_,?_⟩
  ·rw [List.nodup_append];refine⟨m,?_,?_⟩
   ·rw [List.nodup_append];refine⟨l,by simp,?_⟩;intro x b y a;simp at a;subst a
    intro e;subst e;exact c.2.2 b
   ·intro x b y a;rcases List.mem_append.1 a with a | a
    ·exact p x b y a
    ·simp at a;subst a
     intro e;subst e;exact c.2.1 b
  ·intro x b y a;rcases List.mem_append.1 a with a | a
   ·exact f x b y (List.mem_append.2 (Or.inl a))
   ·rcases List.mem_append.1 a with a | a
    ·exact f x b y (List.mem_append.2 (Or.inr a))
    ·simp at a;subst a
     intro e;subst e;exact c.1 b
theorem Ea(b:List (Nat × List Int × Value))(a:List (Nat × List Ins × Value))(d:List (Nat × Nat))(g:Nat)(c:List Ins)(e:Value):
  kF (kF (EL b a d) 2 (EL b a d 2++[sl2 g c.length])) 3 (kF (EL b a d) 2 (EL b a d 2++[sl2 g c.length]) 3++[e])=EL b (a++[(g,c,e)]) d:=by
 funext k
 match k with
 | 0=>simp [kF,EL]
 | 1=>simp [kF,EL]
 | 2=>simp [kF,EL]
 | 3=>simp [kF,EL]
 | 4=>simp [kF,EL]
 | k+5=>simp [kF,EL]
theorem FD(b:List (Nat × List Int × Value))(a:List (Nat × List Ins × Value))(c:List (Nat × Nat))(g t:Nat):
  kF (EL b a c) 4 (EL b a c 4++[sl2 g t])=EL b a (c++[(g,t)]):=by
 funext k
 match k with
 | 0=>simp [kF,EL]
 | 1=>simp [kF,EL]
 | 2=>simp [kF,EL]
 | 3=>simp [kF,EL]
 | 4=>simp [kF,EL]
 | k+5=>simp [kF,EL]
end
theorem o0{w:World}{g:Nat}{c:List Ins}(h:w.heap[g]?=some (.cells (ke c) 65 (0,0)))(a:Nat):CodeAt w (.slice (some ⟨g,0,none⟩) c.length a) c:=by
 refine⟨some ⟨g,0,none⟩,a,rfl,fun k hk=>⟨g,0,rfl,?_⟩⟩;obtain⟨g1,g2,b,f⟩:=qU c k hk;have hl:=lu c;have key:∀ j v,(kH c)[j]?=some v->w.cell? ⟨g,j,none⟩=some v:=fun j v hj=>by
  have d:=(List.getElem?_eq_some_iff.1 hj).1;simp only [World.cell?,h,ke,List.getElem?_toArray];have e:List.flatMap tX c=kH c:=rfl;rw [e,List.getElem?_append_left d];exact hj
 exact⟨by rw [Nat.zero_add];exact key _ _ g1,by rw [Nat.zero_add];exact key _ _ g2,by rw [Nat.zero_add];exact key _ _ b,by rw [Nat.zero_add];exact key _ _ f⟩
theorem ni{w:World}{who:Nat->Role}{f:List (Nat × List Int × Value)}{LC0 LC1:List (Nat × List Ins × Value)}{j:List (Nat × Nat)}{g:Nat}{p:List (List Ins)}(h:Le w who f (LC0++LC1) j 0)(i:w.heap[g]?=some (.cells (jA LC1) 66 (0,0)))
  (c:LC1.map (·.2.1)=p) (b:Nat):ProgAt w (.agg #[.slice (some ⟨g,0,none⟩) p.length b]) p:=by
 have hl:LC1.length=p.length:=by rw [<-c];simp
 refine⟨some ⟨g,0,none⟩,b,rfl,fun t ht=>⟨g,0,rfl,slC (LC1[t]'(by omega)),?_,?_⟩⟩
 ·rw [Nat.zero_add];simp only [World.cell?,i,jA,List.getElem?_toArray];rw [List.getElem?_append_left (by simp;omega),List.getElem?_map,List.getElem?_eq_getElem (by omega)];rfl
 ·have d:LC1[t]'(by omega)∈LC0++LC1:=List.mem_append.2 (Or.inr (List.getElem_mem _));obtain⟨a,_⟩:=h.lc _ d;have e:p[t]=(LC1[t]'(by omega)).2.1:=by simp [<-c]
  rw [e];exact o0 a _
section
variable {B : Nat} {w w' : World} {b : Nat} {who who' : Nat -> Role} {n : Int} {f : Nat -> Value} {K : Nat -> List (Value × Int)} {E : Nat -> List Value} {LI : List (Nat × List Int × Value)} {LC : List (Nat × List Ins × Value)} {LR : List (Nat × Nat)} {tail : Nat}
theorem Le.keepIn(h:Le w who LI LC LR tail)(m:Fr w w' who who' (fun _=>False))(n:∀ g∈LI.map (·.1)++(LC.map (·.1)++LR.map (·.1)),w'.heap[g]?=w.heap[g]?/\who' g= .lent):Le w' who' LI LC LR tail:=by
 have q:∀ g,g<w.heap.size->who g= .other->w'.heap[g]?=w.heap[g]?:=fun g h1 k=>(m.oth g h1 k (fun e=>e)).1
 refine⟨fun x hx=>?_,fun x hx=>?_,fun j hj=>?_,h.sum,h.nd⟩
 ·obtain⟨a,b,c,d,e⟩:=h.li x hx;have f:=n x.1 (List.mem_append.2 (Or.inl (List.mem_map.2 ⟨x,hx,rfl⟩)));obtain⟨k1,k2⟩:=my c d m;exact⟨by rw [f.1];exact a,f.2,k1,k2,e⟩
 ·obtain⟨a,b,c,d,e⟩:=h.lc x hx;have f:=n x.1 (List.mem_append.2 (Or.inr (List.mem_append.2 (Or.inl (List.mem_map.2 ⟨x,hx,rfl⟩)))));refine⟨by rw [f.1];exact a,f.2,qg c d q,?_,e⟩;obtain⟨ao,cap,r,k⟩:=c;intro g o l s i u;have v:=d g o l s i u;rw [r]at i;simp only [Value.slice.injEq]at i;obtain⟨g',o',t,p,_⟩:=k 0 (by omega);rw [t]at i;simp only [Option.some.injEq,Addr.mk.injEq,and_true]at i;obtain⟨⟨rfl,_⟩,_⟩:=i;exact(m.oth _ (World.block_lt_of_cell? w _ p) v (fun e=>e)).2
 ·obtain⟨a,b,c⟩:=h.lr j hj;have f:=n LR[j].1 (List.mem_append.2 (Or.inr (List.mem_append.2 (Or.inr (List.mem_map.2 ⟨LR[j],List.getElem_mem hj,rfl⟩)))));exact⟨by rw [f.1];exact a,f.2,c⟩
theorem Lx.setOut(h:Lx B w b who n f K E LI LC LR tail){g o:Nat}{v:Value}(c:who g= .lent)(i:g∉LI.map (·.1)++(LC.map (·.1)++LR.map (·.1))):Lx B (w.setCell ⟨g,o,none⟩ v) b who n f K E LI LC LR tail:=by
 have d:∀ g',g'≠g->(w.setCell ⟨g,o,none⟩ v).heap[g']?=w.heap[g']?:=fun g' e=>Below.heap_setCell _ _ _ _ (by simpa using e)
 refine⟨⟨h.hs.1.same (by simp) (fun g' _ _ h3=>d g' (fun e=>by subst e;rw [c]at h3;cases h3)),h.hs.2⟩,h.lr.same (fun g' k e=>d g' (fun e2=>by subst e2;rw [c]at e;cases e)),h.le.keepIn (Fr.set (Or.inl (by rw [c];simp))) (fun g' e=>⟨d g' (fun e2=>i (by rw [<-e2];exact e)),(h.le.lt g' e).2⟩)⟩
theorem Lx.addCode{LC1:List (Nat × List Ins × Value)}(h:Lx B w b who n f K E LI LC LR tail){g:Nat}{c:List Ins}{a:Value}(o:w.heap[g]?=some (.cells (ke c) 65 (0,0)))(i:who g= .lent)(m:CodeAt w a c)(d:valOther who a)(k:c.length<=4398046510976)
  (l:g∉LI.map (·.1)++(LC.map (·.1)++LR.map (·.1))) (j:E=EL LI LC1 LR) (e:LC1=LC++[(g,c,a)]):Lx B w b who n f K (EL LI LC1 LR) LI LC1 LR (tail+1):=by
 subst e;subst j;exact⟨h.hs,h.lr,h.le.addCode o i m d k l⟩
end
section
variable {B : Nat} {w w' : World} {b : Nat} {who who' : Nat -> Role} {n : Int} {f : Nat -> Value} {K : Nat -> List (Value × Int)} {E : Nat -> List Value} {LI : List (Nat × List Int × Value)} {LC : List (Nat × List Ins × Value)} {LR : List (Nat × Nat)} {tail : Nat}
theorem Lx.new2(h:Lx B w b who n f K E LI LC LR tail)(d:w.grownBy w' none){g1 g2:Nat}(m:w.heap.size<=g1)(o:g1<w'.heap.size)(q:w.heap.size<=g2)(p:g2<w'.heap.size):
  Lx B w' b (setW (setW who g1 .lent) g2 .lent) n f K E LI LC LR tail/\Fr w w' who (setW (setW who g1 .lent) g2 .lent) (fun _=>False):=by
 have a:∀ g',who g'≠ .other->setW (setW who g1 .lent) g2 .lent g'=who g':=fun g' e=>by
  have:=(h.hs.1.dom g' e).2;rw [iN _ _ (by omega),iN _ _ (by omega)]
 have i:=h.grown d;have hb:=h.low;have l:Fr w w' who (setW (setW who g1 .lent) g2 .lent) (fun _=>False):=Fr.setW (Fr.setW (Fr.grown d) (Or.inl m)) (Or.inl q);refine⟨⟨⟨i.hs.1.more a (fun g' e=>?_),fun c hc x hx g' e=>?_⟩,i.lr.more a,?_⟩,l⟩
 ·by_cases k:g'=g2
  ·subst k;exact⟨by omega,p⟩
  ·rw [iN _ _ k]at e;by_cases j:g'=g1
   ·subst j;exact⟨by omega,o⟩
   ·rw [iN _ _ j]at e;exact i.hs.1.dom g' e
 ·have:=h.hs.2 c hc x hx g' e;rw [a g' (by rw [this];simp),this]
 ·exact h.le.keep l (fun g' e=>⟨d.block g' (h.hs.1.dom g' (by rw [e];simp)).2 (by simp),by rw [a g' (by rw [e];simp)];exact e⟩)
end
end
section
open Go.RowKit
attribute [local go_sem] Go.World.cell?_alloc_some
theorem Bc(n:Nat):(madeCells #[Value.int .i64 0,.int .i64 0,.int .i64 0,.int .i64 0] n).toList=List.replicate n (.int .i64 0):=by
 apply List.ext_getElem (by simp [madeCells]);intro i h1 a;simp only [madeCells,Array.toList_map,List.getElem_map,List.getElem_replicate];have:i<n:=by simpa using a
 simp only [Array.toList_range,List.getElem_range];rcases(by omega:i % 4=0\/i % 4=1\/i % 4=2\/i % 4=3)with h | h | h | h<;>simp [h]
theorem B0(c:List Ins):((kH c++(List.replicate ((c.length+2)*4) (Value.int .i64 0)).drop (c.length*4)).set (c.length*4) (.int .i64 (-77000000))).set ((c.length+1)*4) (.int .i64 (-77000000))=kH c++(nK++nK):=by
 have e:(List.replicate ((c.length+2)*4) (Value.int .i64 0)).drop (c.length*4)=List.replicate 8 (Value.int .i64 0):=by
  rw [List.drop_replicate];congr 1;omega
 have b:=lu c;rw [e,<-b,List.set_append,if_neg (by omega),Nat.sub_self,List.set_append,if_neg (by omega)];have a:(c.length+1)*4 - (kH c).length=4:=by omega
 rw [a];rfl
theorem AZ:((Tryz.prog.info? 65).map fun i=>(i.zero,i.size,i.bytes))=some (some (.agg #[.int .i64 0,.int .i64 0,.int .i64 0,.int .i64 0]),4,32):=by kernel_rfl
theorem xL:((Tryz.prog.info? 66).map fun i=>(i.zero,i.size,i.bytes))=some (some (.slice none 0 0),1,24):=by kernel_rfl
theorem yQ:((Tryz.prog.info? 35).map fun i=>(i.zero,i.size,i.bytes))=some (some (.slice none 0 0),1,24):=by kernel_rfl
structure PgIn(B:Nat)(W w2 w':World)(b:Nat)(who2 who':Nat->Role)(n:Int)(f':Nat->Value)(K:Nat->List (Value × Int))(LI:List (Nat × List Int × Value))(LC LC1:List (Nat × List Ins × Value))(LR:List (Nat × Nat))(gr rb:Nat)(p:List (List Ins))(i:Nat):Prop where
 lx:Lx B w' b who' n f' K (EL LI (LC++LC1) LR) LI (LC++LC1) LR i
 map:LC1.map (·.2.1)=p.take i
 row:w'.heap[gr]?=some (.cells (LC1.map slC++List.replicate (p.length+2 - i) (Value.slice none 0 0)).toArray 66 (0,0))
 wg:who' gr= .lent
 ng:gr∉LI.map (·.1)++((LC++LC1).map (·.1)++LR.map (·.1))
 fr:Fr w2 w' who2 who' (fun _=>False)
 base:W.grownBy w' none
 res:w'.heap[rb]?=some (.cells #[.slice none 0 0] 37 (0,0))
 wr:who' rb= .lent
 nr:rb∉LI.map (·.1)++((LC++LC1).map (·.1)++LR.map (·.1))
 rg:rb≠gr
theorem PgIn.len{B:Nat}{W a w':World}{b:Nat}{e l:Nat->Role}{n:Int}{k:Nat->Value}{K:Nat->List (Value × Int)}{j:List (Nat × List Int × Value)}{m LC1:List (Nat × List Ins × Value)}{o:List (Nat × Nat)}{c f:Nat}{p:List (List Ins)}{i:Nat}
  (h:PgIn B W a w' b e l n k K j m LC1 o c f p i) (d:i<=p.length):LC1.length=i:=by
 have:=congrArg List.length h.map;simpa [Nat.min_eq_left d]using this
theorem Ce(L:List Value)(v:Value)(P i:Nat)(b:L.length=i)(hi:i<P):(L++List.replicate (P+2 - i) (Value.slice none 0 0)).set i v=(L++[v])++List.replicate (P+2 - (i+1)) (Value.slice none 0 0):=by
 obtain⟨k,a⟩:∃ k,P+2 - i=k+1:=⟨P+2 - (i+1),by omega⟩;have c:P+2 - (i+1)=k:=by omega
 rw [a,c,List.set_append,if_neg (by omega),b,Nat.sub_self,List.replicate_succ,List.set_cons_zero,List.append_assoc];rfl
theorem nh(W:World)(B:Nat)(w:World)(b:Nat)(who:Nat->Role)(n:Int)(f:Nat->Value)(K:Nat->List (Value × Int))(s:List (Nat × List Int × Value))(d:List (Nat × List Ins × Value))(q:List (Nat × Nat))(pv:Value)(p:List (List Ins))
  (h:Lx B w b who n f K (EL s d q) s d q 0) (hW:W.grownBy w none) (ct:W.heap.size<=B) (hP:ProgAt W pv p) (hp:p.length<=5864062014634) (bH:∀ c∈p,c.length<=4398046510976) (hLC:d.length+p.length<=5864062014634) (dC:q.length<=1000):
  Calls Tryz.prog 19 #[pt b,pv] w fun e w'=>∃ g LC1 who' f',e= .returned (.agg #[.slice (some ⟨g,0,none⟩) p.length (p.length+2)])/\Lx B w' b who' n f' K (EL s (d++LC1) (q++[(g,p.length)])) s (d++LC1) (q++[(g,p.length)]) 0/\LC1.map (·.2.1)=p/\Fr w w' who who' (fun _=>False)/\w'.heap[g]?=some (.cells (jA LC1) 66 (0,0)):=by
 obtain⟨i0,cm,dt,b1,dc⟩:=info_parts AZ;obtain⟨i1,bg,bn,bm,bf⟩:=info_parts xL;obtain⟨i2,dz,da,cM,dn⟩:=info_parts yQ;have HH:=ij h;have HW:=ij hW;have cP:=ij hP;have dj:=ij bH;have hb:=h.low;obtain⟨U,D,rfl⟩:=hP.form;have cy:pt b= .pointer (some ⟨b,0,none⟩):=rfl;rw [cy];clear h hP cy bH hW;have q0:(p.length:Int)<=5864062014634:=by omega
 have q1:(0:Int)<=(p.length:Int):=by omega
 have cS:(Tryz.prog.info? 65).map (·.size)=some 4:=by rw [cm];simp [b1]
 go_enter Tryz.func19,Tryz.ntmps19
 go_upto_region 2 with fail
 have ba:w.grownBy ((w.alloc (.cells #[.slice U p.length D] 37)).alloc (.cells #[.slice none 0 0] 37)) none:=iq (iq (ir _ _));have bu:((w.alloc (.cells #[.slice U p.length D] 37)).alloc (.cells #[.slice none 0 0] 37)).heap[w.heap.size]?=some (.cells #[.slice U p.length D] 37 (0,0)):=by
  rw [Below.heap_alloc _ _ _ (by simp)];exact heap_alloc_new _ _
 have aY:((w.alloc (.cells #[.slice U p.length D] 37)).alloc (.cells #[.slice none 0 0] 37)).heap[w.heap.size+1]?=some (.cells #[.slice none 0 0] 37 (0,0)):=by
  have:=heap_alloc_new (w.alloc (.cells #[.slice U p.length D] 37)) (.cells #[.slice none 0 0] 37);simpa using this
 have hz:((w.alloc (.cells #[.slice U p.length D] 37)).alloc (.cells #[.slice none 0 0] 37)).heap.size=w.heap.size+2:=by simp
 generalize (w.alloc (.cells #[.slice U p.length D] 37)).alloc (.cells #[.slice none 0 0] 37)=w1 at ba bu aY hz ⊢;go_upto_region 3 with (at_make;refine wpList_make_full _ rfl _ _ _ rfl w1.heap.size 66 i1 _ 1 Tryz.underlying35 bg bn bm .i64 .i64 _ _ (p.length+2) rfl rfl (by simp) (by simp) (by rw [bf];omega) (by unfold maxLen;omega) (by simp) ?_;intro O bV aG)
 have bp:O.heap[w1.heap.size]?=some (.cells (List.replicate (p.length+2) (Value.slice none 0 0)).toArray 66 (0,0)):=by
  rcases bV.2 with ⟨e,_⟩ | ⟨g',bd,cur,hv,_,hh,_,_,aT,htk⟩
  ·cases e
  ·simp only [Value.slice.injEq,Option.some.injEq,Addr.mk.injEq,true_and,and_true]at hv;obtain⟨rfl,rfl⟩:=hv;rw [hh];have M:cur.toList=List.replicate (p.length+2) (Value.slice none 0 0):=by
    rw [<-toList_madeCells_one];simp only [Value.cells,Nat.mul_one]at htk aT;rw [<-htk,List.take_of_length_le (by simp;omega)]
   rw [<-M]
 have cp:w1.heap.size<O.heap.size:=(Array.getElem?_eq_some_iff.1 bp).1;have bt:=il ba aG;have cu:O.heap[w.heap.size]?=some (.cells #[.slice U p.length D] 37 (0,0)):=by rw [aG.block _ (by omega) (by simp)];exact bu
 have cl:O.heap[w.heap.size+1]?=some (.cells #[.slice none 0 0] 37 (0,0)):=by rw [aG.block _ (by omega) (by simp)];exact aY
 obtain⟨cA,cv⟩:=HH.out.new2 bt (g1:=w1.heap.size) (g2:=w.heap.size+1) (by omega) cp (by omega) (by omega);have H0:Hid (PgIn B W O O b (setW (setW who w1.heap.size .lent) (w.heap.size+1) .lent) (setW (setW who w1.heap.size .lent) (w.heap.size+1) .lent) n f K s d [] q w1.heap.size (w.heap.size+1) p 0):=by
  refine⟨by simpa using cA,by simp,by simpa using bp,by rw [iN _ _ (by omega)];exact jC _ _ _,fun e=>?_,Fr.refl _ _ _,il HW.out bt,cl,jC _ _ _,fun e=>?_,by omega⟩
  ·have:=(HH.out.le.lt _ (by simpa using e)).1;omega
  ·have:=(HH.out.le.lt _ (by simpa using e)).1;omega
 have ce:setW (setW who w1.heap.size .lent) (w.heap.size+1) .lent w.heap.size= .other:=by
  rw [iN _ _ (by omega),iN _ _ (by omega)];by_cases e:who w.heap.size= .other
  ·exact e
  ·exact absurd (HH.out.hs.1.dom w.heap.size e).2 (by omega)
 have bb:=ij cv;have aw:=ij ce;have b6:=ij cu;have bl:w.heap.size<O.heap.size/\w.heap.size+1<O.heap.size:=by omega
 clear ba bu aY bV aG bp bt cu cl cA cv ce;rw [hz]at H0 bb aw;obtain⟨m,aU⟩:∃ m,m=w.heap.size+2:=⟨_,rfl⟩;rw [<-aU]at H0 bb aw;generalize setW (setW who m .lent) (w.heap.size+1) .lent=who2 at*;clear hz cp;go_upto_region 4 with fail
 rw [<-aU];have HGR:=ij aU;clear aU;go_loopw [7] (fun v w'=>∃ (i:Nat) (LC1:List (Nat × List Ins × Value)) (who':Nat->Role) (f':Nat->Value),i<=p.length/\v= .int .i64 i/\Hid (PgIn B W O w' b who2 who' n f' K s d LC1 q m (w.heap.size+1) p i)) (fun v _=>p.length - (intOf v).toNat)
 case atStart=>exact⟨0,[],who2,f,Nat.zero_le _,rfl,H0⟩
 case round=>
  clear H0;obtain⟨i,LC1,ap,Q,hi,rfl,x⟩:=hrel;obtain⟨a,b5⟩:∃ a,a=wr:=⟨_,rfl⟩;rw [<-b5]at x ⊢;clear b5;have cG:=x.out.len hi;by_cases ae:i<p.length
  ·obtain⟨du,bd,M,bI⟩:=cP.out;obtain⟨G,Z,S,rv,r1,r2⟩:=bI i ae;simp only [Value.agg.injEq,Array.mk.injEq,List.cons.injEq,Value.slice.injEq,and_true,true_and]at M;obtain⟨M,dF⟩:=M;subst M dF S;have db:p[i].length<=4398046510976:=dj.out _ (List.getElem_mem ae);obtain⟨z,y,rfl⟩:∃ z y,rv= .slice z p[i].length y:=⟨_,_,r2.choose_spec.choose_spec.1⟩;have d0:a.cell? ⟨G,Z+i,none⟩=some (.slice z p[i].length y):=ip x.out.base _ _ r1;have bY:=(x.out.fr.oth w.heap.size bl.1 aw.out (fun e=>e)).1;have c0:a.cell? ⟨w.heap.size,0,none⟩=some (.slice (some ⟨G,Z,none⟩) p.length D):=by
    rw [World.cell?_of_block bY];have:=b6.out;simp [World.cell?,this]
   have bG:=ij r1;have a6:=ij r2;have cQ:Hid (p.take (i+1)=p.take i++[p[i]]):=List.take_succ_eq_append_getElem ae;clear r1 r2 bI bY;generalize p[i]=c at*;have t0:(0:Int)<=(i:Int):=by omega
   have t1:(i:Int)<p.length:=by omega
   have t2:(c.length:Int)<=4398046510976:=by omega
   have t3:(0:Int)<=(c.length:Int):=by omega
   go_upto_region 8 with (at_make;refine wpList_make_full _ rfl _ _ _ rfl a.heap.size 65 i0 _ 4 Tryz.underlying66 cm dt b1 .i64 .i64 _ _ (c.length+2) rfl rfl (by simp) (by simp) (by rw [dc];omega) (by unfold maxLen;omega) (by simp) ?_;intro w6 b2 aA)
   have dv:∃ cur,w6.heap[a.heap.size]?=some (.cells cur 65 (0,0))/\cur.toList=List.replicate ((c.length+2)*4) (.int .i64 0):=by
    rcases b2.2 with ⟨e,_⟩ | ⟨g',bd,cur,hv,_,hh,_,_,aT,htk⟩
    ·cases e
    ·simp only [Value.slice.injEq,Option.some.injEq,Addr.mk.injEq,true_and,and_true]at hv;obtain⟨rfl,rfl⟩:=hv;refine⟨cur,hh,?_⟩;rw [<-Bc];simp only [Value.cells]at htk;rw [<-htk,List.take_of_length_le (by simp;omega)]
   obtain⟨cur,bN,bo⟩:=dv;have aT:cur.size=(c.length+2)*4:=by have:=congrArg List.length bo;simpa using this
   have bL:=il x.out.base aA;have d6:w6.cell? ⟨G,Z+i,none⟩=some (.slice z c.length y):=ip aA _ _ d0;have c6:w6.cell? ⟨w.heap.size,0,none⟩=some (.slice (some ⟨G,Z,none⟩) p.length D):=ip aA _ _ c0;obtain⟨w7,dJ,ak,al⟩:=tU w6 66 3 65 Tryz.underlying66 cS a.heap.size (c.length+2) (c.length+2) (.slice z c.length y) c (a6.out.pres (ip bL)) cur 65 bN (by omega) (by omega);rw [bo]at ak;have aj:=ij aA;clear b2 aA d0 c0 bN bo;go_upto_region 9 with fail
   clear dJ d6 c6;obtain⟨R,hR⟩:∃ R:Array Value,R=(kH c++(List.replicate ((c.length+2)*4) (Value.int .i64 0)).drop (c.length*4)).toArray:=⟨_,rfl⟩;rw [<-hR]at ak;have dB:R.size=(c.length+2)*4:=by rw [hR];simp [lu];omega
   have bS:Hid ((R.setIfInBounds (c.length*4) (.int .i64 (-77000000))).setIfInBounds ((c.length+1)*4) (.int .i64 (-77000000))=ke c):=by
    unfold Hid;rw [hR];simp only [List.setIfInBounds_toArray,ke];rw [B0];rfl
   have aX:=heap_setCell_same w7 a.heap.size (c.length*4) R 65 (.int .i64 (-77000000)) ak;have au:=heap_setCell_same _ a.heap.size ((c.length+1)*4) _ 65 (.int .i64 (-77000000)) aX;rw [bS.out]at au;have d7:∃ u,w7.cell? ⟨a.heap.size,c.length*4,none⟩=some u:=⟨R[c.length*4]'(by omega),by simp only [World.cell?,ak];exact Array.getElem?_eq_getElem _⟩;have d8:∃ u,(w7.setCell ⟨a.heap.size,c.length*4,none⟩ (.int .i64 (-77000000))).cell? ⟨a.heap.size,(c.length+1)*4,none⟩=some u:=⟨(R.setIfInBounds (c.length*4) (.int .i64 (-77000000)))[(c.length+1)*4]'(by simp;omega),by simp only [World.cell?,aX];exact Array.getElem?_eq_getElem _⟩;obtain⟨u7,d7⟩:=d7;obtain⟨u8,d8⟩:=d8;have z7:w7.frozen? ⟨a.heap.size,c.length*4,none⟩=false:=by simp [World.frozen?,ak]
   have z8:(w7.setCell ⟨a.heap.size,c.length*4,none⟩ (.int .i64 (-77000000))).frozen? ⟨a.heap.size,(c.length+1)*4,none⟩=false:=by simp [World.frozen?,aX]
   have cf:a.grownBy w7 none:=⟨al.os.trans aj.out.os,al.tape.trans aj.out.tape,al.output.trans aj.out.output,Nat.le_trans aj.out.size al.size,fun k hk _=>by
    rw [al.block k (Nat.lt_of_lt_of_le hk aj.out.size) (by simp;omega)];exact aj.out.block k hk (by simp)⟩
   obtain⟨C,aI⟩:∃ C,C=(w7.setCell ⟨a.heap.size,c.length*4,none⟩ (.int .i64 (-77000000))).setCell ⟨a.heap.size,(c.length+1)*4,none⟩ (.int .i64 (-77000000)):=⟨_,rfl⟩;have aE:a.grownBy C none:=by rw [aI];exact iF (iF cf (Nat.le_refl _)) (Nat.le_refl _)
   rw [<-aI]at au;have cI:a.heap.size<C.heap.size:=(Array.getElem?_eq_some_iff.1 au).1;have cw:=ij aI;clear aI ak aX al hR dB cf bS aT bL;go_upto_region 11 with fail
   rw [<-cw.out];clear cw d7 d8 z7 z8 u7 u8;obtain⟨co,bJ⟩:=x.out.lx.new aE (g:=a.heap.size) (Nat.le_refl _) cI;have aq:=ij co;have cq:=ij (x.out.fr.trans bJ);have cF:=ij au;have b4:Hid (setW ap a.heap.size .lent a.heap.size= .lent):=jC _ _ _;have cC:m<a.heap.size:=(Array.getElem?_eq_some_iff.1 x.out.row).1;have ci:Hid (C.heap[m]?=some (.cells (LC1.map slC++List.replicate (p.length+2 - i) (Value.slice none 0 0)).toArray 66 (0,0))/\setW ap a.heap.size .lent m= .lent):=by
    refine⟨by rw [aE.block _ cC (by simp)];exact x.out.row,?_⟩;rw [iN _ _ (by omega)];exact x.out.wg
   have dr:Hid (a.heap.size∉s.map (·.1)++((d++LC1).map (·.1)++q.map (·.1))):=fun e=>by have:=(x.out.lx.le.lt _ e).1;omega
   have dI:=ij (il x.out.base aE);have cU:=ij x.out.map;have di:=ij x.out.ng;have dl:=ij x.out.nr;have bO:=ij x.out.rg;have de:w.heap.size+1<a.heap.size:=(Array.getElem?_eq_some_iff.1 x.out.res).1;have b3:Hid (C.heap[w.heap.size+1]?=some (.cells #[.slice none 0 0] 37 (0,0))/\setW ap a.heap.size .lent (w.heap.size+1)= .lent):=by
    refine⟨by rw [aE.block _ de (by simp)];exact x.out.res,?_⟩;rw [iN _ _ (by omega)];exact x.out.wr
   have bA:=ij (Ea s (d++LC1) q a.heap.size c (.slice z c.length y));have hE2:(EL s (d++LC1) q 2).length<=5864062014634:=by simp only [EL,List.length_map,List.length_append];omega
   have dH:(EL s (d++LC1) q 3).length<=5864062014634:=by simp only [EL,List.length_map,List.length_append];omega
   clear co bJ au x;generalize setW ap a.heap.size .lent=who9 at*;generalize EL s (d++LC1) q=E at*;generalize cE:a.heap.size=gx at*;clear cE;have J:C.ownsRow B 66 1 (Q 2) (E 2).length (E 2):=aq.out.lr.r 2 (by omega);have c2:C.cell? ⟨b,2,none⟩=some (Q 2):=aq.out.cell (by omega);obtain⟨o1,o2,o3,P⟩:=iw J;rw [P]at J c2;have bv:=iB J;subst bv;have ab:Hid (∀ {o:Obj} {g6 c6:Nat} {w6:World},w6.ownsRow B 66 1 (.slice (some ⟨g6,0,none⟩) ((E 2).length+1) c6) ((E 2).length+1) (E 2++[sl2 gx c.length])->
     (((Value.slice o1 (E 2).length o3).ownBlock=some g6/\(C.alloc o).grownBy w6 (some g6))\/(g6=C.heap.size+1/\(C.alloc o).grownBy w6 none))->
     HB w6 b Q/\∃ who' f',Lx B (w6.setCell ⟨b,2,none⟩ (.slice (some ⟨g6,0,none⟩) ((E 2).length+1) c6)) b who' n f' K (kF E 2 (E 2++[sl2 gx c.length])) s (d++LC1) q i/\
     Fr C (w6.setCell ⟨b,2,none⟩ (.slice (some ⟨g6,0,none⟩) ((E 2).length+1) c6)) who9 who' (fun _=>False)/\(∀ j,j≠2->f' j=Q j)/\(∀ g,who9 g= .lent->(w6.setCell ⟨b,2,none⟩ (.slice (some ⟨g6,0,none⟩) ((E 2).length+1) c6)).heap[g]?=C.heap[g]?/\who' g= .lent)):=by
    intro o g6 c6 w6 av key;rw [<-P]at key;exact aq.out.push (by omega) av key
   have dL:B<=C.heap.size:=by have:=aq.out.low;omega
   have ay:=ij J;have ar:=ij P;have bE:(E 2).length+1<=maxLen:=by unfold maxLen;omega
   have bM:(E 3).length+1<=maxLen:=by unfold maxLen;omega
   clear J P;have bW:Hid (kF E 2 (E 2++[sl2 gx c.length]) 3=E 3):=vr _ _ (by omega);generalize bD:(E 2).length=N0 at*;generalize bU:E 2=L0 at*;clear bD bU;go_upto_region 12 with (at_builtin;go_must (refine iG rfl _ _ _ rfl B 66 i1 _ 1 24 Tryz.underlying35 bg bn bm bf rfl (by omega) (.slice o1 N0 o3) N0 L0 rfl (iJ ay.out) ⟨C.heap.size,0,none⟩ 1 1 [sl2 gx c.length] rfl rfl (World.news_of_block (cs:= #[.slice (some ⟨gx,0,none⟩) (c.length+2) (c.length+2)]) (t:=66) (fr:=(0,0)) (heap_alloc_new C _)) (by simp [sl2,Value.oneCell']) (by omega) bE (by omega) (by simp;omega) (C.heap.size+1) (by simp) ?_);intro bx bw ax ah af a5;have ad:=(ab.out ah af).1;have T:ax.cell? ⟨b,2,none⟩=some (.slice o1 N0 o3):=(by rw [ad.cell (by omega),ar.out]);have p7:=ad.frozen 2)
   obtain⟨_,F,Y,H,am,a7,X⟩:=ab.out ah af;generalize ax.setCell ⟨b,2,none⟩ (.slice (some ⟨bx,0,none⟩) (N0+1) bw)=w11 at*;rw [<-bW.out]at dH bM;generalize kF E 2 (L0++[sl2 gx c.length])=E11 at*;have rM:w11.ownsRow B 66 1 (Y 3) (E11 3).length (E11 3):=H.lr.r 3 (by omega);have c3:w11.cell? ⟨b,3,none⟩=some (Y 3):=H.cell (by omega);obtain⟨m1,m2,m3,eM⟩:=iw rM;rw [eM]at rM c3;have dx:=iB rM;subst dx;have dq:Hid (∀ {o:Obj} {g6 c6:Nat} {w6:World},w6.ownsRow B 66 1 (.slice (some ⟨g6,0,none⟩) ((E11 3).length+1) c6) ((E11 3).length+1) (E11 3++[.slice z c.length y])->
     (((Value.slice m1 (E11 3).length m3).ownBlock=some g6/\(w11.drew.alloc o).grownBy w6 (some g6))\/(g6=w11.drew.heap.size+1/\(w11.drew.alloc o).grownBy w6 none))->
     HB w6 b Y/\∃ who' f',Lx B (w6.setCell ⟨b,3,none⟩ (.slice (some ⟨g6,0,none⟩) ((E11 3).length+1) c6)) b who' n f' K (kF E11 3 (E11 3++[.slice z c.length y])) s (d++LC1) q i/\
     Fr w11.drew (w6.setCell ⟨b,3,none⟩ (.slice (some ⟨g6,0,none⟩) ((E11 3).length+1) c6)) F who' (fun _=>False)/\(∀ j,j≠3->f' j=Y j)/\(∀ g,F g= .lent->(w6.setCell ⟨b,3,none⟩ (.slice (some ⟨g6,0,none⟩) ((E11 3).length+1) c6)).heap[g]?=w11.drew.heap[g]?/\who' g= .lent)):=by
    intro o g6 c6 w6 av key;rw [<-eM]at key;exact(H.grown (iy (ir _ _))).push (by omega) av key
   have hbase11:B<=w11.heap.size:=by have:=H.low;omega
   have bj:=cq.out.trans am;have a4:W.grownBy w11 none:=am.base dI.out ct (fun g e=>(aq.out.hs.1.dom g e).1) (fun g e=>e.elim);have e0:w11.cell? ⟨w.heap.size,0,none⟩=some (.slice (some ⟨G,Z,none⟩) p.length D):=by
    rw [World.cell?_of_block (bj.oth w.heap.size bl.1 aw.out (fun e=>e)).1];have:=b6.out;simp [World.cell?,this]
   have M:w11.cell? ⟨G,Z+i,none⟩=some (.slice z c.length y):=ip a4 _ _ bG.out;have dp:=ij rM;have cN:=ij eM;have be:=ij H;have b9:=ij bj;have dD:=ij a4;have a2:=ij (X gx b4.out);have a1:=ij (X m ci.out.2);have cx:=ij (X (w.heap.size+1) b3.out.2);have c8:Hid (∀ g o l aF,Value.slice z c.length y= .slice (some ⟨g,o,none⟩) l aF->0<l->g<W.heap.size):=by
    intro g o l aF S hz;obtain⟨du,bd,e4,h5⟩:=a6.out;simp only [Value.slice.injEq]at S e4;obtain⟨g',o',e5,e6,_⟩:=h5 0 (by omega);rw [<-e4.1,S.1]at e5;simp only [Option.some.injEq,Addr.mk.injEq,and_true]at e5;have:=World.block_lt_of_cell? W _ e6;simp only at this;omega
   clear rM eM ah af ad T p7 a5 c2 H am a7 X ab ay ar aq cq bW bj a4 b4;generalize cT:(E11 3).length=N1 at*;generalize hL1':E11 3=L1 at*;clear cT;refine iz (fun u=>u.cell? ⟨b,3,none⟩=some (.slice m1 N1 m3)/\u.cell? ⟨w.heap.size,0,none⟩=some (.slice (some ⟨G,Z,none⟩) p.length D)/\u.cell? ⟨G,Z+i,none⟩=some (.slice z c.length y)) 14 (by kernel_rfl) (by kernel_rfl) ⟨by simp [go_sem,c3],by simp [go_sem,e0],by simp [go_sem,M]⟩ ?_;intro A;have cL:=A.1;have cY:=A.2.1;have cW:=A.2.2;refine gJ 0 ?v0 rfl (by kernel_rfl) (fun _ _ _ h=>h) (by rfl) ?y0 A ?_
   case y0=>(rintro u ⟨N,L,I⟩;go_simp;try rfl)
   simp only [Act.put,List.setIfInBounds_toArray];refine gJ 1 ?v1 rfl (by kernel_rfl) (fun _ _ _ h=>h) (by rfl) ?y1 A ?_
   case y1=>(rintro u ⟨N,L,I⟩;go_simp;try rfl)
   simp only [Act.put];refine gJ 2 ?v2 rfl (by kernel_rfl) (fun _ _ _ h=>h) (by rfl) ?y2 A ?_
   case y2=>(rintro u ⟨N,L,I⟩;go_simp;try rfl)
   simp only [Act.put];refine gJ 3 ?v3 rfl (by kernel_rfl) (fun _ _ _ h=>h) (by rfl) ?y3 A ?_
   case y3=>(rintro u ⟨N,L,I⟩;go_simp;try rfl)
   simp only [Act.put];refine gJ 4 ?v4 rfl (by kernel_rfl) (fun _ _ _ h=>h) (by rfl) ?y4 A ?_
   case y4=>(rintro u ⟨N,L,I⟩;go_simp;try rfl)
   simp only [Act.put];refine gJ 5 ?v5 rfl (by kernel_rfl) (fun _ _ _ h=>h) (by rfl) ?y5 A ?_
   case y5=>(rintro u ⟨N,L,I⟩;go_simp;try rfl)
   simp only [Act.put];refine gJ 6 ?v6 rfl (by kernel_rfl) (fun _ _ _ h=>h) (by rfl) ?y6 A ?_
   case y6=>(rintro u ⟨N,L,I⟩;go_simp;try rfl)
   simp only [Act.put];refine gJ 7 ?v7 rfl (by kernel_rfl) (fun _ _ _ h=>h) (by rfl) ?y7 A ?_
   case y7=>(rintro u ⟨N,L,I⟩;go_simp;try rfl)
   simp only [Act.put];refine gJ 8 ?v8 rfl (by kernel_rfl) (fun _ _ _ h=>h) (by rfl) ?y8 A ?_
   case y8=>(rintro u ⟨N,L,I⟩;go_simp;try rfl)
   simp only [Act.put];refine gJ 9 ?v9 rfl (by kernel_rfl) (fun _ _ _ h=>h) (by rfl) ?y9 A ?_
   case y9=>(rintro u ⟨N,L,I⟩;go_simp;try rfl)
   simp only [Act.put];refine iu (i:=10) rfl (by kernel_rfl) (by kernel_rfl) (by rfl) ?_;intro K10 b0;have bQ:=ij b0;clear b0;go_simp;refine bQ.out _ _ ⟨ip (iq (ir _ _)) _ _ A.1,ip (iq (ir _ _)) _ _ A.2.1,ip (iq (ir _ _)) _ _ A.2.2⟩ ?_;clear bQ;try simp only [Act.put,List.setIfInBounds_toArray]
   refine iu (i:=11) rfl (by kernel_rfl) (by kernel_rfl) (by rfl) ?_;intro K11 bT;have bK:=ij bT;clear bT;refine rV (.tmp 60) (.tmp 66) 35 (by rfl) B 66 i1 _ 1 24 Tryz.underlying35 bg bn bm bf rfl (by omega) (.slice m1 N1 m3) N1 L1 (by rfl) (iJ (w:=w11.drew) (show w11.drew.ownsRow _ _ _ _ _ _ from dp.out)) ⟨w11.heap.size,0,none⟩ 1 1 [.slice z c.length y] (by rfl) (by rfl) (World.news_of_block (cs:= #[.slice z c.length y]) (t:=66) (fr:=(0,0)) (heap_alloc_new w11.drew _)) (by simp [Value.oneCell']) (by omega) bM (by omega) (by simp;omega) (w11.heap.size+1) (by simp) ?_;intro dA cZ a9 cn ch cH;obtain⟨bz,aP,cg,aD,aR,c7,an⟩:=dq.out cn ch;have T:a9.cell? ⟨b,3,none⟩=some (.slice m1 N1 m3):=by rw [bz.cell (by omega),cN.out]
   have dw:F w.heap.size= .other:=(b9.out.oth w.heap.size bl.1 aw.out (fun e=>e)).2;have dE:F G= .other:=by
    have ae:=World.block_lt_of_cell? W _ bG.out;simp only at ae;by_cases e:F G= .other
    ·exact e
    ·exact absurd (be.out.hs.1.dom G e).1 (by omega)
   have a0:∀ g o v,F g= .other->g<w11.heap.size->w11.cell? ⟨g,o,none⟩=some v->a9.cell? ⟨g,o,none⟩=some v:=fun g o v h1 h2 h3=>by
    have h4:=(aR.oth g h2 h1 (fun e=>e)).1;rw [Below.heap_setCell _ _ _ _ (fun e=>by simp only at e;subst e;rw [be.out.hs.1.wb]at h1;cases h1)]at h4;rw [World.cell?_of_block h4];exact h3
   have q6:=a0 _ _ _ dw (World.block_lt_of_cell? w11 _ e0) e0;have q7:=a0 _ _ _ dE (World.block_lt_of_cell? w11 _ M) M;have p7:=bz.frozen 3;refine bK.out _ _ ⟨T,q6,q7⟩ ?_;clear bK;try simp only [Act.put,List.setIfInBounds_toArray]
   refine gJ 12 ?v12 rfl (by kernel_rfl) (fun _ _ _ h=>h) (by rfl) ?y12 ⟨T,q6,q7⟩ ?_
   case y12=>(rintro u ⟨N,L,I⟩;go_simp;try rfl)
   simp only [Act.put];refine gJ 13 ?v13 rfl (by kernel_rfl) (fun _ _ _ h=>h) (by rfl) ?y13 ⟨T,q6,q7⟩ ?_
   case y13=>(rintro u ⟨N,L,I⟩;go_simp;try rfl)
   simp only [Act.put];refine iH rfl (by kernel_rfl) (by kernel_rfl) (by rfl) ?_;go_simp;generalize a9.setCell ⟨b,3,none⟩ (.slice (some ⟨dA,0,none⟩) (N1+1) cZ)=w13 at*;have aL:w13.heap[m]?=some (.cells (LC1.map slC++List.replicate (p.length+2 - i) (Value.slice none 0 0)).toArray 66 (0,0)):=by
    rw [(an m a1.out.2).1];show w11.heap[m]?=_
    rw [a1.out.1];exact ci.out.1
   have bc:W.grownBy w13 none:=(Fr.trans (Fr.grown (iy (ir _ _))) aR).base dD.out ct (fun g e=>(be.out.hs.1.dom g e).1) (fun g e=>e.elim);have bB:Hid (PgIn B W O (w13.setCell ⟨m,i,none⟩ (.slice (some ⟨gx,0,none⟩) c.length (c.length+2))) b who2 aP n cg K s d (LC1++[(gx,c,.slice z c.length y)]) q m (w.heap.size+1) p (i+1)):=by
    have V:=(an m a1.out.2).2;have dM:w13.heap[gx]?=some (.cells (ke c) 65 (0,0)):=by
     rw [(an gx a2.out.2).1];show w11.heap[gx]?=_
     rw [a2.out.1];exact cF.out
    have df:valOther aP (.slice z c.length y):=fun g o l aF S hz=>by
     have ae:=c8.out g o l aF S hz;by_cases e:aP g= .other
     ·exact e
     ·exact absurd (aD.hs.1.dom g e).1 (by omega)
    have a3:=aD.addCode (LC1:=d++(LC1++[(gx,c,.slice z c.length y)])) dM (an gx a2.out.2).2 (a6.out.pres (ip bc)) df db dr.out (by rw [<-List.append_assoc];exact bA.out) (by rw [List.append_assoc]);have cz:m∉s.map (·.1)++((d++(LC1++[(gx,c,Value.slice z c.length y)])).map (·.1)++q.map (·.1)):=by
     have:=di.out;simp only [List.map_append,List.map_cons,List.map_nil,List.mem_append,not_or,List.mem_cons,List.not_mem_nil,or_false]at this ⊢;exact⟨this.1,⟨this.2.1.1,this.2.1.2,by omega⟩,this.2.2⟩
    have ds:=(b9.out.trans (Fr.grown (iy (ir _ _)))).trans aR;have cK:w.heap.size+1∉s.map (·.1)++((d++(LC1++[(gx,c,Value.slice z c.length y)])).map (·.1)++q.map (·.1)):=by
     have:=dl.out;simp only [List.map_append,List.map_cons,List.map_nil,List.mem_append,not_or,List.mem_cons,List.not_mem_nil,or_false]at this ⊢;exact⟨this.1,⟨this.2.1.1,this.2.1.2,by omega⟩,this.2.2⟩
    have bX:=an (w.heap.size+1) cx.out.2;refine⟨a3.setOut V cz,?_,?_,V,cz,ds.trans (Fr.set (Or.inl (by rw [V];simp))),?_,?_,bX.2,cK,bO.out⟩
    ·rw [List.map_append,cU.out,cQ.out];rfl
    ·rw [heap_setCell_same w13 m i _ _ _ aL,List.setIfInBounds_toArray,Ce _ _ _ _ (by simpa using cG) ae,List.map_append];rfl
    ·exact iF bc (by have:=(aD.hs.1.dom m (by rw [V];simp)).1;omega)
    ·rw [Below.heap_setCell _ _ _ _ (by simpa using bO.out),bX.1];show w11.heap[w.heap.size+1]?=_
     rw [cx.out.1];exact b3.out.1
   have k0:∃ u,w13.cell? ⟨m,i,none⟩=some u:=by
    have cB:i<(LC1.map slC++List.replicate (p.length+2 - i) (Value.slice none 0 0)).toArray.size:=by simp;omega
    exact⟨(LC1.map slC++List.replicate (p.length+2 - i) (Value.slice none 0 0)).toArray[i]'cB,by simp only [World.cell?,aL];exact Array.getElem?_eq_getElem cB⟩
   obtain⟨u13,k0⟩:=k0;have k1:w13.frozen? ⟨m,i,none⟩=false:=by simp [World.frozen?,aL]
   have k2:(i:Int)<(p.length:Int)+2:=by omega
   have k3:(c.length:Int)<=(c.length:Int)+2:=by omega
   clear cn ch cH bz T p7 q6 q7 a0 aD aR c7 an aL bc e0 M c3 A cL cY cW;go_wp2_with fail
   go_roundw
   case rel=>exact⟨i+1,_,aP,cg,by omega,by go_num,bB⟩
   case measure=>simp [intOf];omega
  ·have ei:i=p.length:=by omega
   have t1:(p.length:Int)<=(i:Int):=by omega
   have dm:Hid ((q.map (·.2)).sum=d.length):=by have:=x.out.lx.le.sum;unfold Hid;simp at this;omega
   have J:a.ownsRow B 35 1 (Q 4) (EL s (d++LC1) q 4).length (EL s (d++LC1) q 4):=x.out.lx.lr.r 4 (by omega);have c4:a.cell? ⟨b,4,none⟩=some (Q 4):=x.out.lx.cell (by omega);have hE4:(EL s (d++LC1) q 4).length<=1000:=by simp only [EL,List.length_map];exact dC
   have bA:=ij (FD s (d++LC1) q m p.length);obtain⟨o1,o2,o3,P⟩:=iw J;rw [P]at J c4;have bv:=iB J;subst bv;have dL:B<=a.heap.size:=by have:=x.out.lx.low;omega
   have ab:Hid (∀ {o:Obj} {g6 c6:Nat} {w6:World},w6.ownsRow B 35 1 (.slice (some ⟨g6,0,none⟩) ((EL s (d++LC1) q 4).length+1) c6) ((EL s (d++LC1) q 4).length+1) (EL s (d++LC1) q 4++[sl2 m p.length])->
     (((Value.slice o1 (EL s (d++LC1) q 4).length o3).ownBlock=some g6/\(a.alloc o).grownBy w6 (some g6))\/(g6=a.heap.size+1/\(a.alloc o).grownBy w6 none))->
     HB w6 b Q/\∃ who' f',Lx B (w6.setCell ⟨b,4,none⟩ (.slice (some ⟨g6,0,none⟩) ((EL s (d++LC1) q 4).length+1) c6)) b who' n f' K (kF (EL s (d++LC1) q) 4 (EL s (d++LC1) q 4++[sl2 m p.length])) s (d++LC1) q i/\
     Fr a (w6.setCell ⟨b,4,none⟩ (.slice (some ⟨g6,0,none⟩) ((EL s (d++LC1) q 4).length+1) c6)) ap who' (fun _=>False)/\(∀ j,j≠4->f' j=Q j)/\(∀ g,ap g= .lent->(w6.setCell ⟨b,4,none⟩ (.slice (some ⟨g6,0,none⟩) ((EL s (d++LC1) q 4).length+1) c6)).heap[g]?=a.heap[g]?/\who' g= .lent)):=by
    intro o g6 c6 w6 av key;rw [<-P]at key;exact x.out.lx.push (by omega) av key
   have ay:=ij J;have ar:=ij P;have bE:(EL s (d++LC1) q 4).length+1<=maxLen:=by unfold maxLen;omega
   clear J P;generalize bD:(EL s (d++LC1) q 4).length=N0 at*;generalize bU:EL s (d++LC1) q 4=L0 at*;clear bD;go_upto_region 15 with (at_builtin;go_must (refine iG rfl _ _ _ rfl B 35 i2 _ 1 24 Tryz.underlying41 dz da cM dn rfl (by omega) (.slice o1 N0 o3) N0 L0 rfl (iJ ay.out) ⟨a.heap.size,0,none⟩ 1 1 [sl2 m p.length] rfl rfl (World.news_of_block (cs:= #[.slice (some ⟨m,0,none⟩) (p.length+2) (p.length+2)]) (t:=35) (fr:=(0,0)) (heap_alloc_new a _)) (by simp [sl2,Value.oneCell']) (by omega) bE (by omega) (by simp;omega) (a.heap.size+1) (by simp) ?_);intro bx bw ax ah af a5;have ad:=(ab.out ah af).1;have T:ax.cell? ⟨b,4,none⟩=some (.slice o1 N0 o3):=(by rw [ad.cell (by omega),ar.out]);have p7:=ad.frozen 4)
   obtain⟨_,F,Y,H,am,a7,X⟩:=ab.out ah af;generalize ax.setCell ⟨b,4,none⟩ (.slice (some ⟨bx,0,none⟩) (N0+1) bw)=w11 at*;have V:=X m x.out.wg;have aW:=X (w.heap.size+1) x.out.wr;have bC:w11.heap[m]?=some (.cells (jA LC1) 66 (0,0)):=by
    rw [V.1,x.out.row,ei];have S:p.length+2 - p.length=2:=by omega
    rw [S];rfl
   have aS:w11.heap[w.heap.size+1]?=some (.cells #[.slice none 0 0] 37 (0,0)):=by rw [aW.1];exact x.out.res
   have bB:Hid (Lx B (w11.setCell ⟨w.heap.size+1,0,none⟩ (.slice (some ⟨m,0,none⟩) p.length (p.length+2))) b F n Y K (EL s (d++LC1) (q++[(m,p.length)])) s (d++LC1) (q++[(m,p.length)]) 0/\LC1.map (·.2.1)=p/\Fr w (w11.setCell ⟨w.heap.size+1,0,none⟩ (.slice (some ⟨m,0,none⟩) p.length (p.length+2))) who F (fun _=>False)/\(w11.setCell ⟨w.heap.size+1,0,none⟩ (.slice (some ⟨m,0,none⟩) p.length (p.length+2))).heap[m]?=some (.cells (jA LC1) 66 (0,0))):=by
    have b7:=H.le.addRow (g:=m) (by rw [dm.out,List.drop_left];exact bC) V.2 (by omega) x.out.ng;rw [ei]at b7;have bZ:=H.lr;rw [bA.out]at bZ;have a3:Lx B w11 b F n Y K (EL s (d++LC1) (q++[(m,p.length)])) s (d++LC1) (q++[(m,p.length)]) 0:=⟨H.hs,bZ,b7⟩;refine⟨a3.setOut aW.2 ?_,?_,((bb.out.trans x.out.fr).trans am).trans (Fr.set (Or.inl (by rw [aW.2];simp))),?_⟩
    ·have:=x.out.nr;have dy:=x.out.rg;simp only [List.map_append,List.map_cons,List.map_nil,List.mem_append,not_or,List.mem_cons,List.not_mem_nil,or_false]at this ⊢;exact⟨this.1,this.2.1,this.2.2,dy⟩
    ·have:=x.out.map;rw [ei,List.take_length]at this;exact this
    ·rw [Below.heap_setCell _ _ _ _ (by simpa using x.out.rg.symm)];exact bC
   have z0:w11.cell? ⟨w.heap.size+1,0,none⟩=some (.slice none 0 0):=by simp [World.cell?,aS]
   have z1:w11.frozen? ⟨w.heap.size+1,0,none⟩=false:=by simp [World.frozen?,aS]
   have z2:(w11.setCell ⟨w.heap.size+1,0,none⟩ (.slice (some ⟨m,0,none⟩) p.length (p.length+2))).cell? ⟨w.heap.size+1,0,none⟩=some (.slice (some ⟨m,0,none⟩) p.length (p.length+2)):=by
    have:=heap_setCell_same w11 (w.heap.size+1) 0 _ _ (.slice (some ⟨m,0,none⟩) p.length (p.length+2)) aS;simp [World.cell?,this]
   have z3:(p.length:Int)<=(p.length:Int)+2:=by omega
   clear ah af ad T p7 a5 c4 H am a7 X ab ay ar V aW bC aS;go_wp2_with fail
   refine bodyPost_ret (v:= .agg #[.slice (some ⟨m,0,none⟩) p.length (p.length+2)]) ?_ rfl ?_
   ·simp [results,Tryz.results19,go_sem,z2]
   ·exact⟨m,LC1,F,Y,rfl,bB.out⟩
theorem pB(c:List Ins)(v u:Value)(w:World)(A:CodeAt w v c)(x:CodeAt w u c)(hln:c.length<=4398046510976):
  Calls Tryz.prog 52 #[v,u] w fun e w'=>e= .returned (.bool true)/\jt w' w:=by
 obtain⟨ao,cap,rfl,hc⟩:=A;obtain⟨bo,dap,rfl,s⟩:=x;have B:=ij hc;have y:=ij s;clear hc s;have q9:(c.length:Int)<=4398046510976:=by omega
 go_enter Tryz.func52,Tryz.ntmps52
 go_wp2_with fail
 go_loopw [5] (fun i w'=>∃ k:Nat,k<=c.length/\i= .int .i64 k/\Hid (jt w' w)) (fun i _=>c.length - (intOf i).toNat)
 case atStart=>exact⟨0,Nat.zero_le _,rfl,ij (jq _)⟩
 case round=>
  obtain⟨k,hk,rfl,b⟩:=hrel;obtain⟨d,r⟩:∃ d,d=wr:=⟨_,rfl⟩;rw [<-r]at b ⊢;clear r;have f:∀ a,d.cell? a=w.cell? a:=fun a=>by simp [World.cell?,b.out.1]
  by_cases p:k<c.length
  ·obtain⟨xg,xo,rfl,q,l,h,t⟩:=B.out k p;obtain⟨yg,yo,rfl,m,j,n,o⟩:=y.out k p;rw [<-f]at q l h t m j n o;have q2:(0:Int)<=(k:Int):=by omega
   have z:(k:Int)<c.length:=by omega
   clear f;generalize c[k]=i at*;obtain⟨i1,i2,i3,i4⟩:=i;simp only at q l h t m j n o;go_wp2_with fail
   go_quiet (fail)
   go_wp2_with fail
   go_roundw
   case rel=>exact⟨k+1,by omega,by go_num,ij (jV b.out _)⟩
   case measure=>simp [intOf];omega
  ·have z:(c.length:Int)<=(k:Int):=by omega
   clear f;go_wp2_with fail
   go_ret;exact⟨rfl,b.out⟩
end
section
open Go.RowKit
structure Chg(w w':World)(S:Nat->Prop):Prop where
 os:w'.os=w.os
 tape:w'.tape=w.tape
 output:w'.output=w.output
 size:w.heap.size<=w'.heap.size
 blk:∀ g,g<w.heap.size->¬S g->w'.heap[g]?=w.heap[g]?
theorem Chg.refl(w:World)(S:Nat->Prop):Chg w w S:=⟨rfl,rfl,rfl,Nat.le_refl _,fun _ _ _=>rfl⟩
theorem Chg.below{w w1 w2:World}{S:Nat->Prop}(h:Chg w w1 S)(hb:Below w1.heap.size w1 w2):Chg w w2 S:=
 ⟨hb.os.trans h.os,hb.tape.trans h.tape,hb.output.trans h.output,Nat.le_trans h.size hb.size,fun g h1 h2=>by rw [hb.block g (Nat.lt_of_lt_of_le h1 h.size)];exact h.blk g h1 h2⟩
theorem Chg.set{w w1:World}{S:Nat->Prop}{g o:Nat}{v:Value}(h:Chg w w1 S)(hg:S g):Chg w (w1.setCell ⟨g,o,none⟩ v) S:=
 ⟨h.os,h.tape,h.output,by simpa using h.size,fun k h1 h2=>by rw [Below.heap_setCell _ _ _ _ (fun e=>by simp only at e;subst e;exact h2 hg)];exact h.blk k h1 h2⟩
theorem Chg.mono{w w1:World}{S S':Nat->Prop}(h:Chg w w1 S)(hs:∀ g,S g->S' g):Chg w w1 S':=⟨h.os,h.tape,h.output,h.size,fun k h1 h2=>h.blk k h1 (fun e=>h2 (hs k e))⟩
theorem Chg.cell{w a:World}{S:Nat->Prop}(h:Chg w a S){g o:Nat}{v:Value}(hc:w.cell? ⟨g,o,none⟩=some v)(b:¬S g):a.cell? ⟨g,o,none⟩=some v:=by
 have c:g<w.heap.size:=World.block_lt_of_cell? w _ hc;rw [World.cell?_of_block (h.blk g c b)];exact hc
theorem tE(l:List (Nat × List Ins × Value)):(jA l).size=l.length+2:=by simp [jA]
theorem wZ(l:List (Nat × List Ins × Value))(k:Nat)(a:k<l.length):(jA l)[k]?=some (slC l[k]):=by
 simp only [jA,List.getElem?_toArray];rw [List.getElem?_append_left (by simpa using a),List.getElem?_map,List.getElem?_eq_getElem a];rfl
theorem tT(l:List (Nat × List Ins × Value)):(jA l)[l.length]?=some (.slice none 0 0):=by
 simp only [jA,List.getElem?_toArray];rw [List.getElem?_append_right (by simp)];simp
theorem tK(l:List (Nat × List Ins × Value)):(jA l)[l.length+1]?=some (.slice none 0 0):=by
 simp only [jA,List.getElem?_toArray];rw [List.getElem?_append_right (by simp)];simp
theorem tS(c:List Ins):(ke c).size=(c.length+2)*4:=by
 have:=lu c;unfold kH at this;simp only [ke,List.size_toArray,List.length_append,this,nK,List.length_cons,List.length_nil];omega
theorem km(c:List Ins)(j:Nat)(hj:j<4):(ke c)[c.length*4+j]?=nK[j]?/\(ke c)[(c.length+1)*4+j]?=nK[j]?:=by
 have a:=lu c;unfold kH at a;simp only [ke,List.getElem?_toArray];generalize List.flatMap tX c=L at a ⊢;refine⟨?_,?_⟩
 ·rw [List.getElem?_append_right (by omega),List.getElem?_append_left (by simp [nK];omega)];congr 1;omega
 ·rw [List.getElem?_append_right (by omega),List.getElem?_append_right (by simp [nK];omega)];congr 1;simp [nK];omega
def Hz(B:Nat)(w:World)(b:Nat)(who:Nat->Role)(n:Int)(f:Nat->Value)(K:Nat->List (Value × Int)):Prop:=HsK B w b who n f K/\∀ k,k<5->f k= .slice none 0 0
theorem Hz.lx{B:Nat}{w:World}{b:Nat}{who:Nat->Role}{n:Int}{f:Nat->Value}{K:Nat->List (Value × Int)}(h:Hz B w b who n f K):Lx B w b who n f K (EL [] [] []) [] [] [] 0:=by
 refine⟨h.1,⟨fun k hk=>?_,fun k hk g e=>?_⟩,⟨fun x hx=>(by cases hx),fun x hx=>(by cases hx),fun j hj=>(by simp at hj),rfl,(by simp)⟩⟩
 ·have a:EL [] [] [] k=[]:=by
   rcases(by omega:k=0\/k=1\/k=2\/k=3\/k=4)with rfl | rfl | rfl | rfl | rfl<;>rfl
  rw [a,h.2 k hk];exact⟨rfl,Or.inl ⟨rfl,rfl⟩⟩
 ·rw [h.2 k hk]at e;cases e
theorem Lx.free{B:Nat}{w w':World}{b:Nat}{who:Nat->Role}{n:Int}{f:Nat->Value}{K:Nat->List (Value × Int)}{E:Nat->List Value}{j:List (Nat × List Int × Value)}{l:List (Nat × List Ins × Value)}{p:List (Nat × Nat)}{tail:Nat}
  (h:Lx B w b who n f K E j l p tail) {S:Nat->Prop} (hc:Chg w w' S) (c:∀ g,S g->who g= .lent):
  let w5:=((((w'.setCell ⟨b,4,none⟩ (.slice none 0 0)).setCell ⟨b,2,none⟩ (.slice none 0 0)).setCell ⟨b,3,none⟩ (.slice none 0 0)).setCell ⟨b,0,none⟩ (.slice none 0 0)).setCell ⟨b,1,none⟩ (.slice none 0 0)
  ∃ f',Hz B w5 b who n f' K/\Fr w w5 who who (fun _=>False):=by
 intro w5;have i:Hs B w' b who n f K (jo K):=h.hs.1.same hc.size (fun g h1 h2 h3=>hc.blk g h1 (fun e=>by rw [c g e]at h3;cases h3));have d:=((((i.setLent (o:=4) (by omega) (.slice none 0 0)).setLent (o:=2) (by omega) (.slice none 0 0)).setLent (o:=3) (by omega) (.slice none 0 0)).setLent (o:=0) (by omega) (.slice none 0 0)).setLent (o:=1) (by omega) (.slice none 0 0);have m:Fr w w' who who (fun _=>False):=⟨hc.os,hc.tape,hc.output,hc.size,fun g h1 h2 _=>⟨hc.blk g h1 (fun e=>by rw [c g e]at h2;cases h2),h2⟩⟩;have a:who b≠ .other\/False:=Or.inl (by rw [h.hs.1.wb];simp);refine⟨_,⟨⟨d,h.hs.2⟩,fun k hk=>?_⟩,((((m.trans (Fr.set a)).trans (Fr.set a)).trans (Fr.set a)).trans (Fr.set a)).trans (Fr.set a)⟩;rcases(by omega:k=0\/k=1\/k=2\/k=3\/k=4)with rfl | rfl | rfl | rfl | rfl<;>simp [lw]
end
section
open Go.RowKit
attribute [local go_sem] Go.World.cell?_alloc_some
theorem nX{w:World}{B:Nat}{T:TypeId}{v:Value}{E:List Value}(h:w.ownsRow B T 1 v E.length E){i:Nat}(a:i<E.length):∃ g cap,v= .slice (some ⟨g,0,none⟩) E.length cap/\w.cell? ⟨g,i,none⟩=some E[i]:=by
 obtain⟨g,cap,e,_,_⟩:=h.form (by omega);refine⟨g,cap,e,?_⟩;rw [e]at h;rw [h.cellAt i (by omega),List.getElem?_eq_getElem a]
theorem pO{l:List Nat}(h:l.Nodup){i:Nat}(c:i<l.length):l[i]∉l.take i:=by
 intro b;have a:=h;rw [<-List.take_append_drop i l,List.nodup_append]at a;exact a.2.2 _ b _ (by rw [List.drop_eq_getElem_cons c];exact List.mem_cons_self) rfl
theorem rq(B:Nat)(w:World)(b:Nat)(who:Nat->Role)(n:Int)(f:Nat->Value)(K:Nat->List (Value × Int))(t:List (Nat × List Int × Value))(c:List (Nat × List Ins × Value))(l:List (Nat × Nat))
  (h:Lx B w b who n f K (EL t c l) t c l 0) (hLI:t.length<=1000) (hLC:c.length<=5864062014634) (hLR:l.length<=1000):
  Calls Tryz.prog 21 #[pt b] w fun e w'=>e= .returned (.bool true)/\∃ f',Hz B w' b who n f' K/\Fr w w' who who (fun _=>False):=by
 have HX:=ij h;have bR:pt b= .pointer (some ⟨b,0,none⟩):=rfl;rw [bR];have c0:=h.cell (o:=0) (by omega);have c1:=h.cell (o:=1) (by omega);have c2:=h.cell (o:=2) (by omega);have c3:=h.cell (o:=3) (by omega);have c4:=h.cell (o:=4) (by omega);have r0:w.ownsRow B 39 1 (f 0) (EL t c l 0).length (EL t c l 0):=h.lr.r 0 (by omega);have r1:w.ownsRow B 39 1 (f 1) (EL t c l 1).length (EL t c l 1):=h.lr.r 1 (by omega);have Z:w.ownsRow B 66 1 (f 2) (EL t c l 2).length (EL t c l 2):=h.lr.r 2 (by omega);have M:w.ownsRow B 66 1 (f 3) (EL t c l 3).length (EL t c l 3):=h.lr.r 3 (by omega);have r4:w.ownsRow B 35 1 (f 4) (EL t c l 4).length (EL t c l 4):=h.lr.r 4 (by omega);have l0:(EL t c l 0).length=t.length:=by simp [EL]
 have l1:(EL t c l 1).length=t.length:=by simp [EL]
 have l2:(EL t c l 2).length=c.length:=by simp [EL]
 have l3:(EL t c l 3).length=c.length:=by simp [EL]
 have l4:(EL t c l 4).length=l.length:=by simp [EL]
 have wr:=h.lr.wr;have b7:=ij r0;have bU:=ij r1;have cq:=ij Z;have bw:=ij M;have cP:=ij r4;obtain⟨a0,b0,d0,e0⟩:=iw r0;obtain⟨a1,b1,d1,e1⟩:=iw r1;obtain⟨a2,b2,d2,O⟩:=iw Z;obtain⟨a3,b3,d3,J⟩:=iw M;obtain⟨a4,b4,d4,e4⟩:=iw r4;have cA:b0=t.length:=by rw [e0]at r0;have:=iB r0;omega
 have bW:b1=t.length:=by rw [e1]at r1;have:=iB r1;omega
 have cj:b2=c.length:=by rw [O]at Z;have:=iB Z;omega
 have cg:b3=c.length:=by rw [J]at M;have:=iB M;omega
 have cM:b4=l.length:=by rw [e4]at r4;have:=iB r4;omega
 subst cA bW cj cg cM;rw [e0]at c0;rw [e1]at c1;rw [O]at c2;rw [J]at c3;rw [e4]at c4;have ba:=ij e0;have bQ:=ij e1;have bM:=ij O;have a5:=ij J;have bz:=ij e4;have cy:=ij c0;have ca:=ij c1;have cw:=ij c2;have bL:=ij c3;have cf:=ij c4;have aE:=ij wr;have HL:=ij h.le.lt;have aO:=ij h.le.nd;have bh:Hid (∀ g,(g∈l.map (·.1)\/g∈c.map (·.1)\/g∈t.map (·.1))->who g= .lent):=fun g e=>(h.le.lt g (by
  rcases e with e | e | e
  ·exact List.mem_append.2 (Or.inr (List.mem_append.2 (Or.inr e)))
  ·exact List.mem_append.2 (Or.inr (List.mem_append.2 (Or.inl e)))
  ·exact List.mem_append.2 (Or.inl e))).2
 have bb:Hid (who b= .hands):=h.hs.1.wb;clear h bR r0 r1 Z M r4 l0 l1 l2 l3 l4 e0 e1 O J e4 wr c0 c1 c2 c3 c4;have q0:(t.length:Int)<=1000:=by omega
 have q1:(c.length:Int)<=5864062014634:=by omega
 have q2:(l.length:Int)<=1000:=by omega
 go_enter Tryz.func21,Tryz.ntmps21
 go_wp2_with fail
 go_loopw [3,4,5] (fun ok cv iv w'=>∃ i off:Nat,i<=l.length/\ok= .bool true/\cv= .int .i64 off/\Hid (((l.take i).map (·.2)).sum=off)/\iv= .int .i64 i/\Hid (Chg w w' (fun g=>g∈(l.take i).map (·.1)))) (fun _ _ iv _=>l.length - (intOf iv).toNat)
 case atStart=>exact⟨0,0,Nat.zero_le _,rfl,rfl,ij rfl,rfl,ij (Chg.refl _ _)⟩
 case round=>
  obtain⟨i,off,hi,rfl,rfl,br,rfl,A⟩:=hrel;obtain⟨w5,bB⟩:∃ w5,w5=wr:=⟨_,rfl⟩;rw [<-bB]at A ⊢;clear bB;have I:∀ g,g∈(l.take i).map (·.1)->who g= .lent:=fun g e=>bh.out g (Or.inl (by
   obtain⟨x,hx,rfl⟩:=List.mem_map.1 e;exact List.mem_map.2 ⟨x,List.mem_of_mem_take hx,rfl⟩))
  have W:¬b∈(l.take i).map (·.1):=fun e=>by have:=I b e;rw [bb.out]at this;cases this
  have k4:=A.out.cell cf.out W;by_cases E:i<l.length
  ·obtain⟨g4,cp4,e4,r4⟩:=nX cP.out (i:=i) (by simp [EL];exact E);have be:w.cell? ⟨g4,i,none⟩=some (sl2 l[i].1 l[i].2):=by simpa [EL]using r4
   rw [bz.out]at e4;simp only [Value.slice.injEq]at e4;obtain⟨co,cr,cN⟩:=e4;clear cr;subst co cN;have cJ:who g4= .lrow 4:=aE.out 4 (by omega) g4 (by rw [bz.out];rfl);have k5:=A.out.cell be (fun e=>by have:=I g4 e;rw [cJ]at this;cases this);obtain⟨aD,cI,cd⟩:=HX.out.le.lr i E;have bj:=HX.out.le.row_in i E;have aG:¬l[i].1∈(l.take i).map (·.1):=by
    have ah:(l.map (·.1)).Nodup:=by
     have:=aO.out;rw [List.nodup_append]at this;have F:=this.2.1;rw [List.nodup_append]at F;exact F.2.1
    have:=pO ah (i:=i) (by simpa using E);rw [<-List.map_take]at this;simpa using this
   have bq:Hid (((l.take (i+1)).map (·.2)).sum=((l.take i).map (·.2)).sum+l[i].2):=by
    unfold Hid;rw [List.take_succ_eq_append_getElem E,List.map_append,List.sum_append];simp
   have aa:Hid ((l.take (i+1)).map (·.1)=(l.take i).map (·.1)++[l[i].1]):=by
    unfold Hid;rw [List.take_succ_eq_append_getElem E,List.map_append];rfl
   have bN:l[i].1∈l.map (·.1):=List.mem_map.2 ⟨_,List.getElem_mem E,rfl⟩;have cz:Hid (l[i].1∉c.map (·.1)):=fun e=>by
    have:=aO.out;rw [List.nodup_append]at this;have F:=this.2.1;rw [List.nodup_append]at F;exact F.2.2 _ e _ bN rfl
   have cL:Hid (∀ g,g∈(l.take i).map (·.1)->g∉c.map (·.1)):=fun g e O=>by
    have:=aO.out;rw [List.nodup_append]at this;have F:=this.2.1;rw [List.nodup_append]at F;obtain⟨x,hx,rfl⟩:=List.mem_map.1 e;exact F.2.2 _ O _ (List.mem_map.2 ⟨x,List.mem_of_mem_take hx,rfl⟩) rfl
   have bx:=br.out;rw [bx]at aD bj bq;generalize l[i]=x at*;obtain⟨g,m⟩:=x;simp only at be k5 aD cI cd bj aG bq aa cz;clear be bN bx;have bg:((c.drop off).take m).length=m:=by rw [List.length_take,List.length_drop];omega
   have k6:w5.cell? ⟨g,m,none⟩=some (.slice none 0 0):=A.out.cell (by simp only [World.cell?,aD];have:=tT ((c.drop off).take m);rw [bg]at this;exact this) aG;have k7:w5.cell? ⟨g,m+1,none⟩=some (.slice none 0 0):=A.out.cell (by simp only [World.cell?,aD];have:=tK ((c.drop off).take m);rw [bg]at this;exact this) aG;have cH:Hid (∀ k (U:k<m),w.cell? ⟨g,k,none⟩=some (slC (c[off+k]'(Nat.lt_of_lt_of_le (Nat.add_lt_add_left U off) bj)))):=fun k U=>by
    simp only [World.cell?,aD];rw [wZ _ k (by omega)];simp
   have bJ:=ij aD;have t0:(0:Int)<=(i:Int):=by omega
   have t1:(i:Int)<l.length:=by omega
   have t2:(m:Int)<=5864062014634:=by omega
   have t3:(0:Int)<=(m:Int):=by omega
   have t4:(off:Int)+m<=c.length:=by omega
   have t5:(m:Int)<(m:Int)+2:=by omega
   have t6:(m:Int)+1<(m:Int)+2:=by omega
   unfold sl2 at k5;clear aD bg;go_wp2_with fail
   go_loopw [3,4,8] (fun ok cv kv w'=>∃ k q:Nat,k<=m/\ok= .bool true/\cv= .int .i64 q/\Hid (off+k=q)/\kv= .int .i64 k/\Hid (Chg w w' (fun g=>g∈(l.take i).map (·.1)))) (fun _ _ kv _=>m - (intOf kv).toNat)
   case atStart=>exact⟨0,off,Nat.zero_le _,rfl,rfl,ij rfl,rfl,A⟩
   case round=>
    clear k4 k5 k6 k7;obtain⟨k,q,U,rfl,rfl,a7,rfl,ac⟩:=hrel;obtain⟨z,an⟩:∃ z,z=wr:=⟨_,rfl⟩;rw [<-an]at ac ⊢;clear an;by_cases b5:k<m
    ·have bS:=a7.out;have hy:q<c.length:=by omega
     obtain⟨P,bO,J,M⟩:=nX bw.out (i:=q) (by simp [EL];omega);have ak:w.cell? ⟨P,q,none⟩=some c[q].2.2:=by simpa [EL]using M
     rw [a5.out]at J;simp only [Value.slice.injEq]at J;obtain⟨aU,aV,aQ⟩:=J;clear aV;subst aU aQ;have aM:who P= .lrow 3:=aE.out 3 (by omega) P (by rw [a5.out];rfl);have m3:=ac.out.cell bL.out W;have V:=ac.out.cell ak (fun e=>by have:=I P e;rw [aM]at this;cases this);have m5:=ac.out.cell (cH.out k b5) aG;simp only [bS]at m5;obtain⟨S,y2,y3,y4,y5⟩:=HX.out.le.lc c[q] (List.getElem_mem hy);have au:¬c[q].1∈(l.take i).map (·.1):=fun e=>cL.out _ e (List.mem_map.2 ⟨_,List.getElem_mem hy,rfl⟩)
     have Y:CodeAt z (slC c[q]) c[q].2.1:=o0 (by rw [ac.out.blk _ (Array.getElem?_eq_some_iff.1 S).1 au];exact S) _;have N:CodeAt z c[q].2.2 c[q].2.1:=qg y3 y4 (fun g' h1 F=>ac.out.blk g' h1 (fun e=>by have:=I g' e;rw [F]at this;cases this));generalize c[q]=y at*;obtain⟨v,s,yv⟩:=y;simp only [slC]at V m5 Y N y5;obtain⟨ya,yb,rfl⟩:∃ ya yb,yv= .slice ya s.length yb:=⟨_,_,N.choose_spec.choose_spec.1⟩;have av:∀ (d:Nat) (D:Array Obj),Calls Tryz.prog 52 #[.slice (some ⟨v,0,none⟩) s.length (s.length+2),.slice ya s.length yb] (Sort.grow (redrawn z d) D) fun e w''=>e= .returned (.bool true)/\∃ p:Regrown,w''=Sort.grow (redrawn z p.d) p.os:=by
      intro d D;have ad:=kP (below_regrown z d D);refine Calls.regrown_of ((pB s _ _ _ (CodeAt.pres Y (ip ad)) (CodeAt.pres N (ip ad)) y5).mono ?_);rintro e w' ⟨rfl,hl⟩;refine⟨by simp,?_⟩;have:=iK (r:=none) hl;exact⟨this.os,this.tape,this.output,this.size,fun k U=>this.block k U (by simp)⟩
     have n3:=fun d D=>cell_regrown m3 d D
     have n4:=fun d D=>cell_regrown V d D
     have n5:=fun d D=>cell_regrown m5 d D
     have s0:(0:Int)<=(k:Int):=by omega
     have s1:(k:Int)<m:=by omega
     have s2:(k:Int)<(m:Int)+2:=by omega
     have s3:(0:Int)<=(q:Int):=by omega
     have s4:(q:Int)<c.length:=by omega
     clear Y N S y2 y3 y4 M ak;clear bS hy au;go_wp2_with fail
     refine wp_region_quiet_below (by kernel_rfl) (by kernel_rfl) ?_;repeat (quiet_step (exact av _ _))
     refine wpQuiet_nil ?_;intro H Q;obtain⟨⟨dq,aH⟩,Q⟩:=Q;have T:=below_regrown z dq aH;rw [<-Q]at T;have bY:=ij (ac.out.below T);clear Q av n3 n4 n5 T m3 V m5;go_wp2_with fail
     go_roundw
     case rel=>exact⟨k+1,q+1,by omega,rfl,by go_num,ij (by have:=a7.out;omega),by go_num,bY⟩
     case measure=>simp [intOf];omega
    ·have cp:k=m:=by omega
     have u1:(m:Int)<=(k:Int):=by omega
     have HQ:Hid (((l.take (i+1)).map (·.2)).sum=q):=by unfold Hid;rw [bq.out];have:=a7.out;omega
     have aw:Hid (Chg w z (fun g'=>g'∈(l.take (i+1)).map (·.1))/\∃ R:Array Value,R.size=m+2/\z.heap[g]?=some (.cells R 66 (0,0))):=by
      refine⟨ac.out.mono (fun g' e=>by rw [aa.out];exact List.mem_append.2 (Or.inl e)),_,?_,by rw [ac.out.blk g (Array.getElem?_eq_some_iff.1 bJ.out).1 aG];exact bJ.out⟩;rw [tE,List.length_take,List.length_drop];omega
     have ax:g∈(l.take (i+1)).map (·.1):=by rw [aa.out];exact List.mem_append.2 (Or.inr (by simp))
     clear ac cp a7;go_wp2_with fail
     go_loopw [10] (fun kv w'=>∃ k:Nat,k<=m+2/\kv= .int .i64 k/\Hid (Chg w w' (fun g'=>g'∈(l.take (i+1)).map (·.1))/\∃ R:Array Value,R.size=m+2/\w'.heap[g]?=some (.cells R 66 (0,0)))) (fun kv _=>m+2 - (intOf kv).toNat)
     case atStart=>exact⟨0,by omega,rfl,aw⟩
     case round=>
      clear aw;obtain⟨k,U,rfl,HO⟩:=hrel;obtain⟨C,al⟩:∃ C,C=wr:=⟨_,rfl⟩;rw [<-al]at HO ⊢;clear al;by_cases bI:k<m+2
      ·obtain⟨am,R,ar,G⟩:=HO.out;obtain⟨u,y0⟩:∃ u,C.cell? ⟨g,k,none⟩=some u:=⟨R[k]'(by omega),by simp only [World.cell?,G];exact Array.getElem?_eq_getElem _⟩;have S:C.frozen? ⟨g,k,none⟩=false:=by simp [World.frozen?,G]
       have aJ:Hid (Chg w (C.setCell ⟨g,k,none⟩ (.slice none 0 0)) (fun g'=>g'∈(l.take (i+1)).map (·.1))/\∃ R:Array Value,R.size=m+2/\(C.setCell ⟨g,k,none⟩ (.slice none 0 0)).heap[g]?=some (.cells R 66 (0,0))):=
        ⟨am.set ax,R.setIfInBounds k (.slice none 0 0),by simpa using ar,heap_setCell_same C g k R _ _ G⟩
       have z0:(0:Int)<=(k:Int):=by omega
       have z1:(k:Int)<(m:Int)+2:=by omega
       clear G ar am;go_wp2_with fail
       go_roundw
       case rel=>exact⟨k+1,by omega,by go_num,aJ⟩
       case measure=>simp [intOf];omega
      ·have z1:(m:Int)+2<=(k:Int):=by omega
       go_wp2_with fail
       go_roundw
       case rel=>exact⟨i+1,q,by omega,rfl,rfl,HQ,by go_num,ij HO.out.1⟩
       case measure=>simp [intOf];omega
  ·have ei:i=l.length:=by omega
   have t1:(l.length:Int)<=(i:Int):=by omega
   have bv:Hid (Chg w w5 (fun g=>g∈l.map (·.1)\/g∈(c.take 0).map (·.1))):=by
    have:=A.out;rw [ei,List.take_length]at this;exact this.mono (fun g e=>Or.inl e)
   clear A I W br ei;go_wp2_with fail
   go_loopw [3,11] (fun ok iv w'=>∃ j:Nat,j<=c.length/\ok= .bool true/\iv= .int .i64 j/\Hid (Chg w w' (fun g=>g∈l.map (·.1)\/g∈(c.take j).map (·.1)))) (fun _ iv _=>c.length - (intOf iv).toNat)
   case atStart=>exact⟨0,Nat.zero_le _,rfl,rfl,bv⟩
   case round=>
    clear bv k4;obtain⟨j,hj,rfl,rfl,A⟩:=hrel;obtain⟨z,an⟩:∃ z,z=wr:=⟨_,rfl⟩;rw [<-an]at A ⊢;clear an;have I:∀ g,(g∈l.map (·.1)\/g∈(c.take j).map (·.1))->who g= .lent:=fun g e=>bh.out g (by
     rcases e with e | e
     ·exact Or.inl e
     ·obtain⟨x,hx,rfl⟩:=List.mem_map.1 e;exact Or.inr (Or.inl (List.mem_map.2 ⟨x,List.mem_of_mem_take hx,rfl⟩)))
    have W:¬(b∈l.map (·.1)\/b∈(c.take j).map (·.1)):=fun e=>by have:=I b e;rw [bb.out]at this;cases this
    have k2:=A.out.cell cw.out W;by_cases E:j<c.length
    ·obtain⟨g2,cs,O,Z⟩:=nX cq.out (i:=j) (by simp [EL];exact E);have aT:w.cell? ⟨g2,j,none⟩=some (sl2 c[j].1 c[j].2.1.length):=by simpa [EL]using Z
     rw [bM.out]at O;simp only [Value.slice.injEq]at O;obtain⟨bf,bi,bp⟩:=O;clear bi;subst bf bp;obtain⟨P,bO,J,M⟩:=nX bw.out (i:=j) (by simp [EL];exact E);have ak:w.cell? ⟨P,j,none⟩=some c[j].2.2:=by simpa [EL]using M
     rw [a5.out]at J;simp only [Value.slice.injEq]at J;obtain⟨aU,aV,aQ⟩:=J;clear aV;subst aU aQ;have bc:who g2= .lrow 2:=aE.out 2 (by omega) g2 (by rw [bM.out];rfl);have aM:who P= .lrow 3:=aE.out 3 (by omega) P (by rw [a5.out];rfl);have m2:=A.out.cell aT (fun e=>by have:=I g2 e;rw [bc]at this;cases this);have m3:=A.out.cell bL.out W;have V:=A.out.cell ak (fun e=>by have:=I P e;rw [aM]at this;cases this);obtain⟨S,y2,y3,y4,y5⟩:=HX.out.le.lc c[j] (List.getElem_mem E);have au:¬(c[j].1∈l.map (·.1)\/c[j].1∈(c.take j).map (·.1)):=by
      have ah:=aO.out;rw [List.nodup_append]at ah;have F:=ah.2.1;rw [List.nodup_append]at F;rintro(e | e)
      ·exact F.2.2 _ (List.mem_map.2 ⟨_,List.getElem_mem E,rfl⟩) _ e rfl
      ·have:=pO F.1 (i:=j) (by simpa using E);rw [<-List.map_take]at this;exact this (by simpa using e)
     have ai:z.heap[c[j].1]?=some (.cells (ke c[j].2.1) 65 (0,0)):=by rw [A.out.blk _ (Array.getElem?_eq_some_iff.1 S).1 au];exact S
     have Y:CodeAt z (slC c[j]) c[j].2.1:=o0 ai _;have N:CodeAt z c[j].2.2 c[j].2.1:=qg y3 y4 (fun g' h1 F=>A.out.blk g' h1 (fun e=>by have:=I g' e;rw [F]at this;cases this));have aa:Hid ((c.take (j+1)).map (·.1)=(c.take j).map (·.1)++[c[j].1]):=by
      unfold Hid;rw [List.take_succ_eq_append_getElem E,List.map_append];rfl
     generalize c[j]=y at*;obtain⟨v,s,yv⟩:=y;simp only [slC,sl2]at m2 V Y N y5 ai aa;obtain⟨ya,yb,rfl⟩:∃ ya yb,yv= .slice ya s.length yb:=⟨_,_,N.choose_spec.choose_spec.1⟩;have av:∀ (d:Nat) (D:Array Obj),Calls Tryz.prog 52 #[.slice (some ⟨v,0,none⟩) s.length (s.length+2),.slice ya s.length yb] (Sort.grow (redrawn z d) D) fun e w''=>e= .returned (.bool true)/\∃ p:Regrown,w''=Sort.grow (redrawn z p.d) p.os:=by
      intro d D;have ad:=kP (below_regrown z d D);refine Calls.regrown_of ((pB s _ _ _ (CodeAt.pres Y (ip ad)) (CodeAt.pres N (ip ad)) y5).mono ?_);rintro e w' ⟨rfl,hl⟩;refine⟨by simp,?_⟩;have:=iK (r:=none) hl;exact⟨this.os,this.tape,this.output,this.size,fun k U=>this.block k U (by simp)⟩
     have n3:=fun d D=>cell_regrown m3 d D
     have n4:=fun d D=>cell_regrown V d D
     have s0:(0:Int)<=(j:Int):=by omega
     have s1:(j:Int)<c.length:=by omega
     have s2:(s.length:Int)<=4398046510976:=by omega
     have s3:(0:Int)<=(s.length:Int):=by omega
     have s4:(s.length:Int)<=(s.length:Int)+2:=by omega
     have s5:(s.length:Int)<(s.length:Int)+2:=by omega
     have s6:(s.length:Int)+1<(s.length:Int)+2:=by omega
     have aC:=ij ai;clear Y N S y2 y3 y4 Z M aT ak ai au;go_wp2_with fail
     refine wp_region_quiet_below (by kernel_rfl) (by kernel_rfl) ?_;repeat (quiet_step (exact av _ _))
     refine wpQuiet_nil ?_;intro H Q;obtain⟨⟨dq,aH⟩,Q⟩:=Q;have T:=below_regrown z dq aH;rw [<-Q]at T;have L:H.heap[v]?=some (.cells (ke s) 65 (0,0)):=by rw [T.block v (Array.getElem?_eq_some_iff.1 aC.out).1];exact aC.out
     have p0:H.cell? ⟨v,s.length*4,none⟩=some (.int .i64 (-77000000)):=by simp only [World.cell?,L];exact(km s 0 (by omega)).1
     have p1:H.cell? ⟨v,s.length*4+1,none⟩=some (.int .i64 0):=by simp only [World.cell?,L];exact(km s 1 (by omega)).1
     have p2:H.cell? ⟨v,s.length*4+2,none⟩=some (.int .i64 0):=by simp only [World.cell?,L];exact(km s 2 (by omega)).1
     have p3:H.cell? ⟨v,s.length*4+3,none⟩=some (.int .i64 0):=by simp only [World.cell?,L];exact(km s 3 (by omega)).1
     have p4:H.cell? ⟨v,(s.length+1)*4,none⟩=some (.int .i64 (-77000000)):=by simp only [World.cell?,L];exact(km s 0 (by omega)).2
     have p5:H.cell? ⟨v,(s.length+1)*4+1,none⟩=some (.int .i64 0):=by simp only [World.cell?,L];exact(km s 1 (by omega)).2
     have p6:H.cell? ⟨v,(s.length+1)*4+2,none⟩=some (.int .i64 0):=by simp only [World.cell?,L];exact(km s 2 (by omega)).2
     have p7:H.cell? ⟨v,(s.length+1)*4+3,none⟩=some (.int .i64 0):=by simp only [World.cell?,L];exact(km s 3 (by omega)).2
     have aw:Hid (Chg w H (fun g=>g∈l.map (·.1)\/g∈(c.take (j+1)).map (·.1))/\∃ R:Array Value,R.size=(s.length+2)*4/\H.heap[v]?=some (.cells R 65 (0,0))):=
      ⟨(A.out.below T).mono (fun g e=>e.imp id (fun e=>by rw [aa.out];exact List.mem_append.2 (Or.inl e))),_,tS s,L⟩
     have ax:v∈l.map (·.1)\/v∈(c.take (j+1)).map (·.1):=Or.inr (by rw [aa.out];exact List.mem_append.2 (Or.inr (by simp)));clear Q av n3 n4 T m2 m3 V k2 L aC;go_wp2_with fail
     clear p0 p1 p2 p3 p4 p5 p6 p7;go_loopw [15] (fun kv w'=>∃ k:Nat,k<=s.length+2/\kv= .int .i64 k/\Hid (Chg w w' (fun g=>g∈l.map (·.1)\/g∈(c.take (j+1)).map (·.1))/\∃ R:Array Value,R.size=(s.length+2)*4/\w'.heap[v]?=some (.cells R 65 (0,0)))) (fun kv _=>s.length+2 - (intOf kv).toNat)
     case atStart=>exact⟨0,by omega,rfl,aw⟩
     case round=>
      clear aw;obtain⟨k,U,rfl,HO⟩:=hrel;obtain⟨C,al⟩:∃ C,C=wr:=⟨_,rfl⟩;rw [<-al]at HO ⊢;clear al;by_cases bI:k<s.length+2
      ·obtain⟨am,R,ar,G⟩:=HO.out;obtain⟨u0,y0⟩:∃ u,C.cell? ⟨v,k*4,none⟩=some u:=⟨R[k*4]'(by omega),by simp only [World.cell?,G];exact Array.getElem?_eq_getElem _⟩;obtain⟨u1,S⟩:∃ u,C.cell? ⟨v,k*4+1,none⟩=some u:=⟨R[k*4+1]'(by omega),by simp only [World.cell?,G];exact Array.getElem?_eq_getElem _⟩;obtain⟨u2,y2⟩:∃ u,C.cell? ⟨v,k*4+2,none⟩=some u:=⟨R[k*4+2]'(by omega),by simp only [World.cell?,G];exact Array.getElem?_eq_getElem _⟩;obtain⟨u3,y3⟩:∃ u,C.cell? ⟨v,k*4+3,none⟩=some u:=⟨R[k*4+3]'(by omega),by simp only [World.cell?,G];exact Array.getElem?_eq_getElem _⟩;have v0:C.frozen? ⟨v,k*4,none⟩=false:=by simp [World.frozen?,G]
       have v1:C.frozen? ⟨v,k*4+1,none⟩=false:=by simp [World.frozen?,G]
       have v2:C.frozen? ⟨v,k*4+2,none⟩=false:=by simp [World.frozen?,G]
       have v3:C.frozen? ⟨v,k*4+3,none⟩=false:=by simp [World.frozen?,G]
       have aJ:Hid (Chg w ((((C.setCell ⟨v,k*4,none⟩ (.int .i64 1)).setCell ⟨v,k*4+1,none⟩ (.int .i64 0)).setCell ⟨v,k*4+2,none⟩ (.int .i64 0)).setCell ⟨v,k*4+3,none⟩ (.int .i64 99)) (fun g=>g∈l.map (·.1)\/g∈(c.take (j+1)).map (·.1))/\
         ∃ R:Array Value,R.size=(s.length+2)*4/\((((C.setCell ⟨v,k*4,none⟩ (.int .i64 1)).setCell ⟨v,k*4+1,none⟩ (.int .i64 0)).setCell ⟨v,k*4+2,none⟩ (.int .i64 0)).setCell ⟨v,k*4+3,none⟩ (.int .i64 99)).heap[v]?=some (.cells R 65 (0,0))):=by
        refine⟨(((am.set ax).set ax).set ax).set ax,_,?_,heap_setCell_same _ v _ _ _ _ (heap_setCell_same _ v _ _ _ _ (heap_setCell_same _ v _ _ _ _ (heap_setCell_same C v _ R _ _ G)))⟩;simpa using ar
       have z0:(0:Int)<=(k:Int):=by omega
       have z1:(k:Int)<(s.length:Int)+2:=by omega
       clear G ar am;go_wp2_with fail
       go_roundw
       case rel=>exact⟨k+1,by omega,by go_num,aJ⟩
       case measure=>simp [intOf];omega
      ·have z1:(s.length:Int)+2<=(k:Int):=by omega
       go_wp2_with fail
       go_roundw
       case rel=>exact⟨j+1,by omega,rfl,by go_num,ij HO.out.1⟩
       case measure=>simp [intOf];omega
    ·have ej:j=c.length:=by omega
     have t2:(c.length:Int)<=(j:Int):=by omega
     have bt:Hid (Chg w z (fun g=>(g∈l.map (·.1)\/g∈c.map (·.1))\/g∈(t.take 0).map (·.1))):=by
      have:=A.out;rw [ej,List.take_length]at this;exact this.mono (fun g e=>Or.inl e)
     clear A I W ej;go_wp2_with fail
     go_loopw [3,16] (fun ok iv w'=>∃ j:Nat,j<=t.length/\ok= .bool true/\iv= .int .i64 j/\Hid (Chg w w' (fun g=>(g∈l.map (·.1)\/g∈c.map (·.1))\/g∈(t.take j).map (·.1)))) (fun _ iv _=>t.length - (intOf iv).toNat)
     case atStart=>exact⟨0,Nat.zero_le _,rfl,rfl,bt⟩
     case round=>
      clear bt k2;obtain⟨j,hj,rfl,rfl,A⟩:=hrel;obtain⟨z,an⟩:∃ z,z=wr:=⟨_,rfl⟩;rw [<-an]at A ⊢;clear an;have I:∀ g,((g∈l.map (·.1)\/g∈c.map (·.1))\/g∈(t.take j).map (·.1))->who g= .lent:=fun g e=>bh.out g (by
       rcases e with (e | e) | e
       ·exact Or.inl e
       ·exact Or.inr (Or.inl e)
       ·obtain⟨x,hx,rfl⟩:=List.mem_map.1 e;exact Or.inr (Or.inr (List.mem_map.2 ⟨x,List.mem_of_mem_take hx,rfl⟩)))
      have W:¬((b∈l.map (·.1)\/b∈c.map (·.1))\/b∈(t.take j).map (·.1)):=fun e=>by have:=I b e;rw [bb.out]at this;cases this
      have k0:=A.out.cell cy.out W;by_cases E:j<t.length
      ·obtain⟨g2,cs,O,Z⟩:=nX b7.out (i:=j) (by simp [EL];exact E);have aT:w.cell? ⟨g2,j,none⟩=some (sl2 t[j].1 t[j].2.1.length):=by simpa [EL]using Z
       rw [ba.out]at O;simp only [Value.slice.injEq]at O;obtain⟨bf,bi,bp⟩:=O;clear bi;subst bf bp;obtain⟨P,bO,J,M⟩:=nX bU.out (i:=j) (by simp [EL];exact E);have ak:w.cell? ⟨P,j,none⟩=some t[j].2.2:=by simpa [EL]using M
       rw [bQ.out]at J;simp only [Value.slice.injEq]at J;obtain⟨aU,aV,aQ⟩:=J;clear aV;subst aU aQ;have bc:who g2= .lrow 0:=aE.out 0 (by omega) g2 (by rw [ba.out];rfl);have aM:who P= .lrow 1:=aE.out 1 (by omega) P (by rw [bQ.out];rfl);have m2:=A.out.cell aT (fun e=>by have:=I g2 e;rw [bc]at this;cases this);have m3:=A.out.cell ca.out W;have V:=A.out.cell ak (fun e=>by have:=I P e;rw [aM]at this;cases this);obtain⟨S,y2,y3,y4,y5⟩:=HX.out.le.li t[j] (List.getElem_mem E);have au:¬((t[j].1∈l.map (·.1)\/t[j].1∈c.map (·.1))\/t[j].1∈(t.take j).map (·.1)):=by
        have ah:=aO.out;rw [List.nodup_append]at ah;have hm:t[j].1∈t.map (·.1):=List.mem_map.2 ⟨_,List.getElem_mem E,rfl⟩;rintro((e | e) | e)
        ·exact ah.2.2 _ hm _ (List.mem_append.2 (Or.inr e)) rfl
        ·exact ah.2.2 _ hm _ (List.mem_append.2 (Or.inl e)) rfl
        ·have:=pO ah.1 (i:=j) (by simpa using E);rw [<-List.map_take]at this;exact this (by simpa using e)
       have ai:z.heap[t[j].1]?=some (.cells (kr t[j].2.1) 3 (0,0)):=by rw [A.out.blk _ (Array.getElem?_eq_some_iff.1 S).1 au];exact S
       have Y:=md ai;have N:IntsAt z.heap.size z t[j].2.2 t[j].2.1:=sy y3 y4 A.out.size (fun g' h1 F=>A.out.blk g' h1 (fun e=>by have:=I g' e;rw [F]at this;cases this));have aa:Hid ((t.take (j+1)).map (·.1)=(t.take j).map (·.1)++[t[j].1]):=by
        unfold Hid;rw [List.take_succ_eq_append_getElem E,List.map_append];rfl
       generalize t[j]=y at*;obtain⟨v,s,yv⟩:=y;simp only [sl2]at m2 V Y N y5 ai aa;obtain⟨ya,yb,rfl⟩:=N.form;have av:∀ (d:Nat) (D:Array Obj),Calls Tryz.prog 30 #[.slice (some ⟨v,0,none⟩) s.length (s.length+2),.slice ya s.length yb] (Sort.grow (redrawn z d) D) fun e w''=>e= .returned (.bool true)/\∃ p:Regrown,w''=Sort.grow (redrawn z p.d) p.os:=by
        intro d D;have ad:=kP (below_regrown z d D);refine Calls.regrown_of ((sB s s _ _ _ ((Y.pres (ip ad)).mono ad.size) ((N.pres (ip ad)).mono ad.size) (by omega)).mono ?_);rintro e w' ⟨rfl,hl⟩;refine⟨by simp,?_⟩;have:=iK (r:=none) hl;exact⟨this.os,this.tape,this.output,this.size,fun k U=>this.block k U (by simp)⟩
       have n3:=fun d D=>cell_regrown m3 d D
       have n4:=fun d D=>cell_regrown V d D
       have s0:(0:Int)<=(j:Int):=by omega
       have s1:(j:Int)<t.length:=by omega
       have s2:(s.length:Int)<=17592186043904:=by omega
       have s3:(0:Int)<=(s.length:Int):=by omega
       have s4:(s.length:Int)<=(s.length:Int)+2:=by omega
       have s5:(s.length:Int)<(s.length:Int)+2:=by omega
       have s6:(s.length:Int)+1<(s.length:Int)+2:=by omega
       have aC:=ij ai;clear Y N S y2 y3 y4 Z M aT ak ai au;go_wp2_with fail
       refine wp_region_quiet_below (by kernel_rfl) (by kernel_rfl) ?_;repeat (quiet_step (exact av _ _))
       refine wpQuiet_nil ?_;intro H Q;obtain⟨⟨dq,aH⟩,Q⟩:=Q;have T:=below_regrown z dq aH;rw [<-Q]at T;have L:H.heap[v]?=some (.cells (kr s) 3 (0,0)):=by rw [T.block v (Array.getElem?_eq_some_iff.1 aC.out).1];exact aC.out
       have p0:H.cell? ⟨v,s.length,none⟩=some (.int .i64 (-77000000)):=by simp only [World.cell?,L];exact vl s
       have p1:H.cell? ⟨v,s.length+1,none⟩=some (.int .i64 (-77000000)):=by simp only [World.cell?,L];exact vA s
       have aw:Hid (Chg w H (fun g=>(g∈l.map (·.1)\/g∈c.map (·.1))\/g∈(t.take (j+1)).map (·.1))/\∃ R:Array Value,R.size=s.length+2/\H.heap[v]?=some (.cells R 3 (0,0))):=
        ⟨(A.out.below T).mono (fun g e=>e.imp id (fun e=>by rw [aa.out];exact List.mem_append.2 (Or.inl e))),_,xf s,L⟩
       have ax:(v∈l.map (·.1)\/v∈c.map (·.1))\/v∈(t.take (j+1)).map (·.1):=Or.inr (by rw [aa.out];exact List.mem_append.2 (Or.inr (by simp)));clear Q av n3 n4 T m2 m3 V k0 L aC;go_wp2_with fail
       clear p0 p1;go_loopw [20] (fun kv w'=>∃ k:Nat,k<=s.length+2/\kv= .int .i64 k/\Hid (Chg w w' (fun g=>(g∈l.map (·.1)\/g∈c.map (·.1))\/g∈(t.take (j+1)).map (·.1))/\∃ R:Array Value,R.size=s.length+2/\w'.heap[v]?=some (.cells R 3 (0,0)))) (fun kv _=>s.length+2 - (intOf kv).toNat)
       case atStart=>exact⟨0,by omega,rfl,aw⟩
       case round=>
        clear aw;obtain⟨k,U,rfl,HO⟩:=hrel;obtain⟨C,al⟩:∃ C,C=wr:=⟨_,rfl⟩;rw [<-al]at HO ⊢;clear al;by_cases bI:k<s.length+2
        ·obtain⟨am,R,ar,G⟩:=HO.out;obtain⟨u0,y0⟩:∃ u,C.cell? ⟨v,k,none⟩=some u:=⟨R[k]'(by omega),by simp only [World.cell?,G];exact Array.getElem?_eq_getElem _⟩;have v0:C.frozen? ⟨v,k,none⟩=false:=by simp [World.frozen?,G]
         have aJ:Hid (Chg w (C.setCell ⟨v,k,none⟩ (.int .i64 3)) (fun g=>(g∈l.map (·.1)\/g∈c.map (·.1))\/g∈(t.take (j+1)).map (·.1))/\∃ R:Array Value,R.size=s.length+2/\(C.setCell ⟨v,k,none⟩ (.int .i64 3)).heap[v]?=some (.cells R 3 (0,0))):=
          ⟨am.set ax,R.setIfInBounds k (.int .i64 3),by simpa using ar,heap_setCell_same C v k R _ _ G⟩
         have z0:(0:Int)<=(k:Int):=by omega
         have z1:(k:Int)<(s.length:Int)+2:=by omega
         clear G ar am;go_wp2_with fail
         go_roundw
         case rel=>exact⟨k+1,by omega,by go_num,aJ⟩
         case measure=>simp [intOf];omega
        ·have z1:(s.length:Int)+2<=(k:Int):=by omega
         go_wp2_with fail
         go_roundw
         case rel=>exact⟨j+1,by omega,rfl,by go_num,ij HO.out.1⟩
         case measure=>simp [intOf];omega
      ·have t3:(t.length:Int)<=(j:Int):=by omega
       have X:HB z b f:=HX.out.hs.1.blk.same (A.out.blk b HX.out.low.2 W);have cE:=ij (HX.out.free A.out I);have x4:z.cell? ⟨b,4,none⟩=some (f 4):=X.cell (by omega);have x2:z.cell? ⟨b,2,none⟩=some (f 2):=X.cell (by omega);have x3:z.cell? ⟨b,3,none⟩=some (f 3):=X.cell (by omega);have x0:z.cell? ⟨b,0,none⟩=some (f 0):=X.cell (by omega);have x1:z.cell? ⟨b,1,none⟩=some (f 1):=X.cell (by omega);rw [ba.out]at x0;have f4:=X.frozen 4;have f2:=X.frozen 2;have f3:=X.frozen 3;have f0:=X.frozen 0;have f1:=X.frozen 1;clear X k0;go_wp2_with fail
       go_ret;obtain⟨f',h1,F⟩:=cE.out;exact⟨rfl,⟨f',h1⟩,F⟩
end
end Go.Proofs.YtklenjmfalljgabGreatDoor
