/- The texts Rde Rdf Rdg Wrt2 Rdh Rdi Rdj Rdk Rdl Rdm Rdn Rdo. -/
import Derived.Test.YtklenjmfalljgabGreatDoorMJ
import Derived.Deep.DeepMust
import Derived.Deep.RegionHeld3
namespace Go.Proofs.YtklenjmfalljgabGreatDoor
set_option maxRecDepth 100000
set_option maxHeartbeats 8000000
section
open Go.RowKit
attribute [local go_sem] Go.World.cell?_alloc_some
def oC{α:Type}(c:List α)(res:Option (List α × List Nat)):Option (List α × List Nat):=match res with
 | some (xs,r)=>some (c++xs,r)
 | none=>none
theorem uu{α:Type}(a:Option (List α × List Nat)):oC [] a=a:=by
 unfold oC;cases a with
 | none=>rfl
 | some x=>rfl
theorem sA{α:Type}(P:List Nat->Option (α × List Nat))(c:List α)(l:List Nat):oC c (jW P 0 l)=some (c,l):=by simp [oC,jW]
theorem s8{α:Type}{P:List Nat->Option (α × List Nat)}{l r:List Nat}{x:α}(h:P l=some (x,r))(c:List α)(m:Nat):oC c (jW P (m+1) l)=oC (c++[x]) (jW P m r):=by
 rw [jW,h];simp only;cases jW P m r with
 | none=>rfl
 | some y=>simp [oC]
theorem sx{α:Type}{P:List Nat->Option (α × List Nat)}{l:List Nat}(h:P l=none)(c:List α)(m:Nat):oC c (jW P (m+1) l)=none:=by rw [jW,h];rfl
theorem uJ{w w':World}{base:Nat}{e:TypeId}{size:Nat}{v:Value}{n b:Nat}{xs:List Value}(h:w.ownsRow base e size v n xs)(hg:w.grownBy w' (some b))(hb:b<base):w'.ownsRow base e size v n xs:=
 iD h hg (fun k e=>by simp only [Option.some.injEq]at e;omega)
theorem oG{l r:List Nat}{x:Int}(h:jr l=some (x,r)):0<=x:=by
 unfold jr at h;split at h
 ·split at h
  ·simp only [Option.some.injEq,Prod.mk.injEq]at h;omega
  ·cases h
 ·cases h
theorem m9{b x:Int}{l r:List Nat}(h:kK b l=some (x,r)):0<=x/\x<=b:=by
 unfold kK at h;split at h
 ·rename_i hw
  split at h
  ·simp only [Option.some.injEq,Prod.mk.injEq]at h;have:=oG hw;omega
  ·cases h
 ·cases h
theorem B1(W w:World)(b k:Nat)(s:ByteArray)(h:RdS W w b s k)(M:s.size<=9223372036854775806):
  Calls Tryz.prog 173 #[pt b] w (Rd W b s (fun w' c v=>c.length<=16/\CodeRow w.heap.size w'.heap.size w' v c) (jF ((byt s).drop k))):=by
 obtain⟨i0,aj,ah,T,ak⟩:=info_parts xu;have Q:=ij (vH w w b k s h.self M 16);have G:=ij h;have aa:=h.lt;have ai:pt b= .pointer (some ⟨b,0,none⟩):=rfl;rw [ai]at*;clear h;go_enter Tryz.func173,Tryz.ntmps173
 go_wp2_with fail
 refine Q.out.mono ?_;rintro e w1 (⟨d,rfl,r⟩ | ⟨n,r1,v,k1,d,rfl,rfl,f,rfl⟩)
 ·have A:Hid (jF ((byt s).drop k)=none):=by unfold Hid jF;rw [d]
  have C:=ij (il G.out.base r);clear d r;go_wp2_with fail
  exact⟨rfl,Or.inl ⟨A.out,rfl,C.out⟩⟩
 obtain⟨P,h16⟩:=m9 d;obtain⟨m,rfl⟩:=Int.eq_ofNat_of_zero_le P;have A:Hid (jF ((byt s).drop k)=jW lY m ((byt s).drop k1)):=by unfold Hid jF;rw [d];rfl
 have Z:=ij f;clear d f P Q;go_wp2_with fail
 go_loopw [3,6] (fun lv i w'=>∃ (j:Nat) (c:List Ins) (l:Nat),j<=m/\i= .int .i64 j/\Hid (c.length=j)/\Hid (RdS w w' b s l)/\Hid (w'.ownsRow w.heap.size 65 4 lv c.length (jk c))/\Hid (oC c (jW lY (m - j) ((byt s).drop l))=jF ((byt s).drop k))) (fun _ i _=>m - (intOf i).toNat)
 case atStart=>exact⟨0,[],k1,Nat.zero_le _,rfl,ij rfl,Z,ij ⟨rfl,Or.inl ⟨rfl,rfl⟩⟩,ij (by rw [A.out,uu];rfl)⟩
 case round=>
  obtain⟨j,c,l,hj,rfl,I,o,H,D⟩:=hrel;obtain⟨p,E⟩:∃ p,p=wr:=⟨_,rfl⟩;subst E;have E:w.heap.size<=p.heap.size:=o.out.base.size;by_cases hjm:j<m
  ·have q1:(j:Int)<m:=by omega
   have R:=ij (F2 p p b l s o.out.self M);have y:m - j=(m - (j+1))+1:=by omega
   go_wp2_with fail
   refine R.out.mono ?_;rintro e w6 (⟨d,rfl,r⟩ | ⟨x,r1,v,k2,d,rfl,rfl,f,rfl⟩)
   ·have z:Hid (jF ((byt s).drop k)=none):=by unfold Hid;rw [<-D.out,y,sx d]
    have C:=ij (il G.out.base (il o.out.base r));clear d r y;go_wp2_with fail
    exact⟨rfl,Or.inl ⟨z.out,rfl,C.out⟩⟩
   have S:Hid (oC (c++[x]) (jW lY (m - (j+1)) ((byt s).drop k2))=jF ((byt s).drop k)):=by unfold Hid;rw [<-D.out,y,s8 d]
   have V:=ij f;have u:=ij (uJ H.out f.base aa);have hw6:w.heap.size<=w6.heap.size:=Nat.le_trans E f.base.size;obtain⟨x1,x2,x3,rfl⟩:=iw u.out;have ac:=iB u.out;subst ac;have hcl:c.length<=16:=by have:=I.out;omega
   have ag:c.length+1<=maxLen:=by unfold maxLen;omega
   clear d f y R;unfold F7;go_wp2_with (at_builtin;go_must (refine wpList_append_lies _ rfl _ _ _ rfl w.heap.size 65 i0 _ 4 32 Tryz.underlying66 aj ah T ak rfl (by omega) (.slice x1 c.length x3) c.length (jk c) rfl (iJ u.out) ⟨w6.heap.size,0,none⟩ 1 1 (vJ x) rfl rfl (World.news_of_block (cs:= #[.int .i64 x.op,.int .i64 x.a,.int .i64 x.b,.int .i64 x.n]) (t:=65) (fr:=(0,0)) (heap_alloc_new w6 _)) (C8 x) (by omega) ag (by omega) (by simp;omega) (w6.heap.size+1) (by simp) ?_);intro g6 X L K F U ad)
   have O:Hid (RdS w L b s k2/\L.ownsRow w.heap.size 65 4 (.slice (some ⟨g6,0,none⟩) (c.length+1) X) (c++[x]).length (jk (c++[x]))):=by
    have J:=iA u.out;have B:=(o.out.trans V.out);refine⟨⟨?_,?_,B.le⟩,?_⟩
    ·rw [F.block b (by simp;omega) (fun e=>by have:=J b e.symm;omega),Below.heap_alloc _ _ _ (by omega)];exact B.blk
    ·exact jG (iq B.base) F (fun q e=>J q e)
    ·rw [px];simpa using K
   clear K F U ad;go_wp2_with fail
   go_roundw
   case rel=>exact⟨j+1,c++[x],k2,by omega,by first | rfl | go_num,ij (by simpa using I.out),ij O.out.1,ij O.out.2,S⟩
   case measure=>simp [intOf];omega
  ·have q1:¬(j:Int)<m:=by omega
   have N:m - j=0:=by omega
   have z:Hid (jF ((byt s).drop k)=some (c,(byt s).drop l)):=by unfold Hid;rw [<-D.out,N,sA]
   have Y:Hid (c.length<=16):=by unfold Hid;have:=I.out;omega
   clear N;go_wp2_with fail
   go_ret;exact Or.inr ⟨c,_,_,l,z.out,rfl,⟨Y.out,H.out,vy H.out⟩,G.out.trans o.out,rfl⟩
theorem AF(W w:World)(b k:Nat)(s:ByteArray)(h:RdS W w b s k)(hs:s.size<=9223372036854775806):
  Calls Tryz.prog 137 #[pt b] w (Rd W b s (fun w' p v=>p.length<=4/\∃ tv,v= .agg #[tv]/\ThrAt (w.heap.size+2) w'.heap.size w' tv p) (kN ((byt s).drop k))):=by
 obtain⟨i1,aX,aE,aC,aO⟩:=info_parts zU;have P:=ij h;have hbw:=h.lt;have aU:pt b= .pointer (some ⟨b,0,none⟩):=rfl;rw [aU]at*;clear h;go_enter Tryz.func137,Tryz.ntmps137
 go_wp2_with fail
 have B:=InS.start (T:=37) P.out.self #[.slice none 0 0] #[.slice none 0 0];generalize ai:(w.alloc (.cells #[.slice none 0 0] 37)).alloc (.cells #[.slice none 0 0] 37)=w1 at B ⊢;have aP:w.heap.size+2<=w1.heap.size:=by rw [<-ai];simp
 clear ai;refine(vH w1 w1 b k s B.rd.self hs 4).mono ?_;rintro e w2 (⟨l,rfl,H⟩ | ⟨n,r1,v,k1,l,rfl,rfl,z,rfl⟩)
 ·have U:Hid (kN ((byt s).drop k)=none):=by unfold Hid kN;rw [l]
  have HG:=ij (il P.out.base (il B.rd.base H));clear l H B;go_wp2_with fail
  exact⟨rfl,Or.inl ⟨U.out,rfl,HG.out⟩⟩
 obtain⟨h0,h4⟩:=m9 l;obtain⟨m,rfl⟩:=Int.eq_ofNat_of_zero_le h0;have U:Hid (kN ((byt s).drop k)=jW jF m ((byt s).drop k1)):=by unfold Hid kN;rw [l];rfl
 have HI:=ij (B.call z);have aV:w.heap.size+2<=w2.heap.size:=Nat.le_trans aP z.base.size;clear l z h0 B;go_wp2_with fail
 go_loopw [6] (fun i w'=>∃ (j:Nat) (p:List (List Ins)) (tv:Value) (C:Nat),j<=m/\i= .int .i64 j/\Hid (p.length=j)/\Hid (InS w w' b s C 37 (w.heap.size+1) w.heap.size #[tv] #[.slice none 0 0])/\Hid (ThrAt (w.heap.size+2) w'.heap.size w' tv p)/\w.heap.size+2<=w'.heap.size/\Hid (oC p (jW jF (m - j) ((byt s).drop C))=kN ((byt s).drop k))) (fun i _=>m - (intOf i).toNat)
 case atStart=>exact⟨0,[],.slice none 0 0,k1,Nat.zero_le _,rfl,ij rfl,HI,ij ⟨[],⟨rfl,Or.inl ⟨rfl,rfl⟩⟩,fun h e=>(by cases e),fun j hj=>(by simp at hj),Apt.nil⟩,aV,ij (by rw [U.out,uu];rfl)⟩
 case round=>
  obtain⟨j,p,tv,C,hj,rfl,Z,f,D,av,HE⟩:=hrel;obtain⟨a,ah⟩:∃ a,a=wr:=⟨_,rfl⟩;rw [<-ah]at f D av ⊢;clear ah;by_cases hjm:j<m
  ·have q1:(j:Int)<m:=by omega
   have Q:m - j=(m - (j+1))+1:=by omega
   have HT:=ij (B1 a.drew a.drew b C s (f.out.rd.grown (iy (ir _ _))).self hs);have X:a.cell? ⟨w.heap.size+1,0,none⟩=some tv:=by simpa using f.out.cell 0
   go_wp2_with fail
   refine iz (fun u=>u.cell? ⟨w.heap.size+1,0,none⟩=some tv) 7 (by kernel_rfl) (by kernel_rfl) ?_ ?_
   ·simp [go_sem,X]
   intro hHeld;refine gJ 0 ?v0 rfl (by kernel_rfl) (fun _ _ _ h=>h) (by rfl) ?y0 (by assumption) ?_
   case y0=>(intro u V;go_simp;try rfl)
   simp only [Act.put,List.setIfInBounds_toArray];refine gJ 1 ?v1 rfl (by kernel_rfl) (fun _ _ _ h=>h) (by rfl) ?y1 (by assumption) ?_
   case y1=>(intro u V;go_simp;try rfl)
   simp only [Act.put];refine gJ 2 ?v2 rfl (by kernel_rfl) (fun _ _ _ h=>h) (by rfl) ?y2 (by assumption) ?_
   case y2=>(intro u V;go_simp;try rfl)
   simp only [Act.put];refine iu (i:=3) rfl (by kernel_rfl) (by kernel_rfl) (by rfl) ?_;intro K3 aj;have ao:=ij aj;clear aj;go_simp;refine HT.out.mono ?_;rintro e w6 (⟨l,rfl,H⟩ | ⟨x,r1,v,k2,l,rfl,K,z,rfl⟩)
   ·have S:Hid (kN ((byt s).drop k)=none):=by unfold Hid;rw [<-HE.out,Q,sx l]
    have HG:=ij (il P.out.base (il f.out.rd.base (il (iy (ir _ _)) H)));clear l H Q;exact⟨rfl,Or.inl ⟨S.out,rfl,HG.out⟩⟩
   have aM:Hid (oC (p++[x]) (jW jF (m - (j+1)) ((byt s).drop k2))=kN ((byt s).drop k)):=by unfold Hid;rw [<-HE.out,Q,s8 l]
   have aq:w.heap.size+2<=a.drew.heap.size:=av;have Y:a.grownBy w6 (some b):=il (iy (ir _ _)) z.base;have hw6:w.heap.size+2<=w6.heap.size:=Nat.le_trans aq z.base.size;have ab:=ij (f.out.call (RdS.trans (f.out.rd.self.grown (iy (ir _ _))) z));have N:Hid (ThrAt (w.heap.size+2) a.heap.size w6 tv p):=D.out.step Y (fun q e=>by simp only [Option.some.injEq]at e;omega);have aB:Hid (a.heap.size<=w6.heap.size):=Y.size;have aQ:Hid (∀ q,v.ownBlock=some q->a.heap.size<=q):=fun q e=>iA K.2.1 q e
   have R:Hid (CodeRow (w.heap.size+2) w6.heap.size w6 v x):=⟨iQ K.2.1 aq,K.2.2⟩;obtain⟨v1,v2,v3,rfl⟩:=iw R.out.1;obtain⟨d,y,c,rfl⟩:=iw N.out.choose_spec.1;obtain⟨rows,G⟩:∃ rows,Hid (w6.ownsRow (w.heap.size+2) 66 1 (.slice d y c) p.length rows):=⟨_,N.out.choose_spec.1⟩;have az:=iB G.out;subst az;have hpl:p.length<=4:=by have:=Z.out;omega
   have ax:w6.cell? ⟨w.heap.size+1,0,none⟩=some (.slice d p.length c):=by simpa using ab.out.cell 0
   clear l z Y Q HT K D f;refine ao.out _ _ ax ?_;clear ao;try simp only [Act.put,List.setIfInBounds_toArray]
   refine iu (i:=4) rfl (by kernel_rfl) (by kernel_rfl) (by rfl) ?_;intro K4 al;have af:=ij al;clear al;go_simp;have E:w6.grownBy (w6.alloc (.cells #[.slice v1 v2 v3] 66)) none:=iq (ir _ _);refine af.out _ _ (ip E _ _ ax) ?_;clear af;have aT:p.length+1<=maxLen:=by unfold maxLen;omega
   have aN:(p.length+1)*24<=140737488355328:=by omega
   refine iu (i:=5) rfl (by kernel_rfl) (by kernel_rfl) (by rfl) ?_;intro K5 an;have ag:=ij an;clear an;refine wp_append_lies _ (.tmp 9) (.tmp 12) 35 (by rfl) (w.heap.size+2) 66 i1 _ 1 24 Tryz.underlying35 aX aE aC aO rfl (by omega) (.slice d p.length c) p.length rows (by rfl) (iJ G.out) ⟨w6.heap.size,0,none⟩ 1 1 [.slice v1 v2 v3] (by rfl) (by rfl) (World.news_of_block (cs:= #[.slice v1 v2 v3]) (t:=66) (fr:=(0,0)) (heap_alloc_new w6 _)) (by simp [Value.oneCell']) (by omega) aT aN (by simp;omega) (w6.heap.size+1) (by simp) ?_;intro g2 A r aa F aS aF;have ap:∀ q,(Value.slice d p.length c).ownBlock=some q->w.heap.size+2<=q:=fun q e=>iA G.out q e
   have O:∀ q,q<w.heap.size+2->r.heap[q]?=w6.heap[q]?:=fun q hq=>by
    rw [F.block q (by simp;omega) (fun e=>by have:=ap q e.symm;omega),E.block q (by omega) (by simp)]
   have M:Hid (InS w r b s k2 37 (w.heap.size+1) w.heap.size #[.slice d p.length c] #[.slice none 0 0]):=by
    have I:=ab.out;exact⟨⟨by rw [O _ (by omega)];exact I.rd.blk,jG (il I.rd.base (lP E)) F (fun q e=>by have:=ap q e;omega),I.rd.le⟩,by rw [O _ (by omega)];exact I.var,by rw [O _ (by omega)];exact I.res,I.cb,I.db,I.cd,I.lc,I.ld⟩
   have aL:r.cell? ⟨w.heap.size+1,0,none⟩=some (.slice d p.length c):=by simpa using M.out.cell 0
   have hsz7:w6.heap.size+1<=r.heap.size:=by have:=F.size;simpa using this
   have aw:Hid (ThrAt (w.heap.size+2) r.heap.size r (.slice (some ⟨g2,0,none⟩) (p.length+1) A) (p++[x])):=
    ThrAt.snoc N.out aB.out aQ.out G.out R.out E F aa (by omega) (vy aa)
   clear aa F aS aF O E N G R ab;refine ag.out _ _ aL ?_;clear ag;try simp only [Act.put,List.setIfInBounds_toArray]
   refine gJ 6 ?v6 rfl (by kernel_rfl) (fun _ _ _ h=>h) (by rfl) ?y6 (by assumption) ?_
   case y6=>(intro u V;go_simp;try rfl)
   simp only [Act.put];refine iH rfl (by kernel_rfl) (by kernel_rfl) (by rfl) ?_;have s7f:r.frozen? ⟨w.heap.size+1,0,none⟩=false:=M.out.free 0;have aD:=ij (M.out.set 0 (.slice (some ⟨g2,0,none⟩) (p.length+1) A));have L:Hid (ThrAt (w.heap.size+2) (r.setCell ⟨w.heap.size+1,0,none⟩ (.slice (some ⟨g2,0,none⟩) (p.length+1) A)).heap.size (r.setCell ⟨w.heap.size+1,0,none⟩ (.slice (some ⟨g2,0,none⟩) (p.length+1) A)) (.slice (some ⟨g2,0,none⟩) (p.length+1) A) (p++[x])):=by
    have:=aw.out.step (iV (w:=r) (b:=w.heap.size+1) (o:=0) (v:= .slice (some ⟨g2,0,none⟩) (p.length+1) A)) (fun q e=>by simp only [Option.some.injEq]at e;omega);exact this.mono (by simp)
   have aA:w.heap.size+2<=(r.setCell ⟨w.heap.size+1,0,none⟩ (.slice (some ⟨g2,0,none⟩) (p.length+1) A)).heap.size:=by simp;omega
   clear M aw;go_simp;go_wp2
   go_roundw
   case rel=>exact⟨j+1,p++[x],_,k2,by omega,by first | rfl | go_num,ij (by simpa using Z.out),aD,L,aA,aM⟩
   case measure=>simp [intOf];omega
  ·have q1:¬(j:Int)<m:=by omega
   have ej:m - j=0:=by omega
   have S:Hid (kN ((byt s).drop k)=some (p,(byt s).drop C)):=by unfold Hid;rw [<-HE.out,ej,sA]
   have aW:Hid (p.length<=4):=by unfold Hid;have:=Z.out;omega
   obtain⟨d,y,c,rfl⟩:=iw D.out.choose_spec.1;have X:a.cell? ⟨w.heap.size+1,0,none⟩=some (.slice d y c):=by simpa using f.out.cell 0
   have cr:a.cell? ⟨w.heap.size,0,none⟩=some (.slice none 0 0):=by simpa using f.out.rcell 0
   have fr:=f.out.rfree 0;clear ej;go_wp2_with fail
   have J:=f.out.rset 0 (.slice d y c);have L:ThrAt (w.heap.size+2) (a.setCell ⟨w.heap.size,0,none⟩ (.slice d y c)).heap.size (a.setCell ⟨w.heap.size,0,none⟩ (.slice d y c)) (.slice d y c) p:=by
    have:=D.out.step (iV (w:=a) (b:=w.heap.size) (o:=0) (v:= .slice d y c)) (fun q e=>by simp only [Option.some.injEq]at e;omega);exact this.mono (by simp)
   clear X cr fr f D;generalize a.setCell ⟨w.heap.size,0,none⟩ (.slice d y c)=wz at J L ⊢;have e0:wz.cell? ⟨w.heap.size,0,none⟩=some (.slice d y c):=by simpa using J.rcell 0
   refine bodyPost_ret (v:= .agg #[.slice d y c]) ?_ rfl ?_
   ·simp [results,Tryz.results137,go_sem,e0]
   ·exact Or.inr ⟨p,_,_,C,S.out,rfl,⟨aW.out,_,rfl,L⟩,P.out.trans J.rd,rfl⟩
theorem sC(m:Nat)(a:List Int)(l:List Nat):lm (m+1) a l=match oY (500 - a.length) l with
  | none=>none
  | some ((t,c),r)=>if a.getLast?≠some t then lm m (a++List.replicate c.toNat t) r else none:=by
 rw [lm,oY];cases jr l with
 | none=>rfl
 | some x=>
  obtain⟨t,r⟩:=x;simp only;cases kK (500 - a.length) r with
  | none=>rfl
  | some y=>
   obtain⟨c,r'⟩:=y;simp only;by_cases hc:0<c
   ·simp [hc]
   ·simp [hc]
theorem xh{a:Int}{l r:List Nat}{t c:Int}(h:oY a l=some ((t,c),r)):0<=t/\t<=9223372036854775807/\0<c/\c<=a:=by
 unfold oY at h;split at h
 ·cases h
 ·rename_i t' r' hw
  split at h
  ·cases h
  ·rename_i c' r'' hm
   split at h
   ·simp only [Option.some.injEq,Prod.mk.injEq]at h;obtain⟨⟨rfl,rfl⟩,rfl⟩:=h;have b:=oG hw;have d:=m9 hm;have e:t'<=9223372036854775807:=by
     unfold jr at hw;split at hw
     ·split at hw
      ·simp only [Option.some.injEq,Prod.mk.injEq]at hw;omega
      ·cases hw
     ·cases hw
    exact⟨b,e,by assumption,d.2⟩
   ·cases h
structure Box(p:Prop):Prop where
 out:p
section
variable {P : Program} {ops : Array Oper} {w : World} {Q : Act -> Prop} {a : Act} {o : Oper} {rest : List Oper}
theorem BG(b:Region.wanted o (yielded ops a.tmps)=false)(h:Box (wpStill P ops w Q rest (a.put o.dst undef))):Box (wpStill P ops w Q (o::rest) a):=by
 refine⟨?_⟩;unfold wpStill;rw [if_neg (by rw [b];simp)];exact h.out
theorem mK(b:Region.wanted o (yielded ops a.tmps)=true)(h:∀ K:Act->Prop,(∀ a,Box (wpStill P ops w Q rest a)->K a)->o.still P a w K):Box (wpStill P ops w Q (o::rest) a):=by
 refine⟨?_⟩;unfold wpStill;rw [if_pos b];exact h _ (fun _ h=>h.out)
theorem uM(h:Q a):Box (wpStill P ops w Q [] a):=⟨h⟩
theorem pz{id:Nat}{Q:Exit->Act->World->Prop}{a:Act}{w:World}{l:List Oper}(n:Nat)(hm:P.follows .mixedOrders=true)(hB:Region.lexTailB .any l.toArray n=true)
  (h:Box (wpStill P l.toArray w.drew (fun a'=>wpList P l.toArray Q (l.drop n) a' w.drew) (l.take n) a)):(Code.region id l.toArray true).wp P Q a w:=wp_region_still_tail n hm hB h.out
end
theorem yd(W w:World)(b k:Nat)(s:ByteArray)(h:RdS W w b s k)(hs:s.size<=9223372036854775806):
  Calls Tryz.prog 138 #[pt b] w (Rd W b s (fun w' l v=>l.length<=500/\w'.ownsRow w.heap.size 3 1 v l.length (iL l)) (jU ((byt s).drop k))):=by
 have HM:=ij (vH w w b k s h.self hs 500);have N:=ij h;have aG:=h.lt;have aJ:pt b= .pointer (some ⟨b,0,none⟩):=rfl;rw [aJ]at*;clear h;go_enter Tryz.func138,Tryz.ntmps138
 go_wp2_with fail
 refine HM.out.mono ?_;rintro e w1 (⟨d,rfl,I⟩ | ⟨n,r1,v,k1,d,rfl,rfl,o,rfl⟩)
 ·have R:Hid (jU ((byt s).drop k)=none):=by unfold Hid jU;rw [d]
  have V:=ij (il N.out.base I);clear d I;go_wp2_with fail
  exact⟨rfl,Or.inl ⟨R.out,rfl,V.out⟩⟩
 obtain⟨h0,h500⟩:=m9 d;obtain⟨m,rfl⟩:=Int.eq_ofNat_of_zero_le h0;have R:Hid (jU ((byt s).drop k)=lm m [] ((byt s).drop k1)):=by unfold Hid jU;rw [d];rfl
 have HS:=ij o;clear d o h0 HM;go_wp2_with fail
 go_loopw [3,8] (fun lv i w'=>∃ (j:Nat) (l:List Int) (B:Nat),j<=m/\i= .int .i64 j/\l.length<=500/\Hid (j=0↔l=[])/\Hid (RdS w w' b s B)/\Hid (w'.ownsRow w.heap.size 3 1 lv l.length (iL l))/\Hid (lm (m - j) l ((byt s).drop B)=jU ((byt s).drop k))) (fun _ i _=>m - (intOf i).toNat)
 case atStart=>exact⟨0,[],k1,Nat.zero_le _,rfl,Nat.zero_le _,ij ⟨fun _=>rfl,fun _=>rfl⟩,HS,ij ⟨rfl,Or.inl ⟨rfl,rfl⟩⟩,ij (by rw [R.out];rfl)⟩
 case round=>
  obtain⟨j,l,B,hj,rfl,aD,G,f,C,M⟩:=hrel;obtain⟨F,aa⟩:∃ F,F=wr:=⟨_,rfl⟩;rw [<-aa]at f C ⊢;clear aa;have aH:w.heap.size<=F.heap.size:=f.out.base.size;obtain⟨X,s2,U,rfl⟩:=iw C.out;have aA:=iB C.out;subst aA;by_cases hjm:j<m
  ·have q1:(j:Int)<m:=by omega
   have O:m - j=(m - (j+1))+1:=by omega
   have HT:=ij (Gc F F b B s (500 - (l.length:Int)) f.out.self hs);go_wp2_with fail
   refine HT.out.mono ?_;rintro e w6 (⟨d,rfl,I⟩ | ⟨x,r1,v,k2,d,rfl,rfl,o,rfl⟩)
   ·have Q:Hid (jU ((byt s).drop k)=none):=by unfold Hid;rw [<-M.out,O,sC,d]
    have V:=ij (il N.out.base (il f.out.base I));clear d I O;go_wp2_with fail
    exact⟨rfl,Or.inl ⟨Q.out,rfl,V.out⟩⟩
   obtain⟨t,c⟩:=x;obtain⟨t0,t1,c0,c1⟩:=xh d;have z:Hid (jU ((byt s).drop k)=if l.getLast?≠some t then lm (m - (j+1)) (l++List.replicate c.toNat t) ((byt s).drop k2) else none):=by unfold Hid;rw [<-M.out,O,sC,d]
   have ai:=ij (f.out.trans o);have aj:=ij (uJ C.out o.base aG);have hw6:w.heap.size<=w6.heap.size:=Nat.le_trans aH o.base.size;clear d o O HT M f C;obtain⟨a,rfl⟩:=Int.eq_ofNat_of_zero_le (show 0<=c by omega);have aF:a<=501:=by omega
   unfold Ga;go_wp2_with fail
   have r:Hid (RdS w (w6.alloc (.cells #[.int .i64 t,.int .i64 (a:Int)] 187)) b s k2):=ai.out.grown (iq (ir _ _));have D:Hid ((w6.alloc (.cells #[.int .i64 t,.int .i64 (a:Int)] 187)).ownsRow w.heap.size 3 1 (.slice X l.length U) l.length (iL l)):=iJ aj.out;have a0:(w6.alloc (.cells #[.int .i64 t,.int .i64 (a:Int)] 187)).cell? ⟨w6.heap.size,0,none⟩=some (.int .i64 t):=by
    have:=heap_alloc_new w6 (.cells #[.int .i64 t,.int .i64 (a:Int)] 187);simp only [World.cell?,this];rfl
   have a1:(w6.alloc (.cells #[.int .i64 t,.int .i64 (a:Int)] 187)).cell? ⟨w6.heap.size,1,none⟩=some (.int .i64 (a:Int)):=by
    have:=heap_alloc_new w6 (.cells #[.int .i64 t,.int .i64 (a:Int)] 187);simp only [World.cell?,this];rfl
   generalize w6.alloc (.cells #[.int .i64 t,.int .i64 (a:Int)] 187)=wA at r D a0 a1 ⊢;have ak:=ij (vU w wA.drew (some b) (.slice X l.length U) l t a (iD D.out (iy (ir _ none)) (fun _ e=>by cases e)) (iy r.out.base) aF (by omega));have Y:∀ (q:World) (sv:Value),q.ownsRow w.heap.size 3 1 sv (l++List.replicate a t).length (iL (l++List.replicate a t))->w.grownBy q (some b)->wA.drew.grownBy q (Value.slice X l.length U).ownBlock->RdS w q b s k2:=by
    intro q sv h1 h2 h3;refine⟨?_,h2,r.out.le⟩;have aB:=iA D.out;rw [h3.block b (by have:=r.out.lt;exact this) (fun e=>by have:=aB b e.symm;omega)];exact r.out.blk
   have Z:=ij Y;have ao:(l++List.replicate a t).length<=500:=by simp;omega
   have ac:=ij ao;have ae:Hid (j+1=0↔l++List.replicate a t=[]):=by
    unfold Hid;refine⟨fun e=>by omega,fun e=>?_⟩;have:=congrArg List.length e;simp at this;omega
   clear Y ao ai aj;by_cases P:j=0
   ·have qz:((j:Int)==0)=true:=by simp;omega
    have am:l=[]:=G.out.1 P;have H:Hid (lm (m - (j+1)) (l++List.replicate a t) ((byt s).drop k2)=jU ((byt s).drop k)):=by
     unfold Hid;rw [z.out,if_pos (by rw [am];simp)];rfl
    clear am P z G;refine pz 13 (by kernel_rfl) (by kernel_rfl) ?_;simp only [List.take_succ_cons,List.take_zero,List.drop_succ_cons,List.drop_zero];iterate 3 (refine mK (by rfl) (fun K hK=>?_);go_simp;refine hK _ ?_;clear hK K)
    iterate 9 (refine BG (by rfl) ?_;simp only [Act.put,List.setIfInBounds_toArray,List.set_cons_succ,List.set_cons_zero])
    refine mK (by rfl) (fun K hK=>?_);go_simp;refine hK _ ?_;clear hK K
    refine uM ?_;go_wp2_with (first | (go_at_call 141;refine(j4 _).mono ?_;rintro e w7 ⟨⟨v7,rfl⟩,rfl⟩) | (go_at_call 102;refine ak.out.mono ?_;rintro e q ⟨sv,rfl,p,J,E,⟨z1,z2,z3,rfl⟩⟩))
    have S:=ij p;have T:=ij (Z.out _ _ p J E);clear p J E;go_wp2_with fail
    go_roundw
    case rel=>exact⟨j+1,l++List.replicate a t,k2,by omega,by first | rfl | go_num,ac.out,ae,T,S,H⟩
    case measure=>simp [intOf];omega
   ·have qz:((j:Int)==0)=false:=by simp;omega
    have u:l≠[]:=fun e=>P (G.out.2 e)
    have hlp:0<l.length:=List.length_pos_iff.2 u;obtain⟨g,cap,eg,_,_⟩:=D.out.form (by omega);simp only [Value.slice.injEq]at eg;obtain⟨rfl,_,rfl⟩:=eg;have hcell:wA.cell? ⟨g,l.length - 1,none⟩=some (.int .i64 (l.getLast u)):=by
     rw [D.out.cellAt _ (by omega)];have:l.length - 1<l.length:=by omega
     simp [iL,List.getLast_eq_getElem]
    have L:Hid (l.getLast?=some (l.getLast u)):=List.getLast?_eq_some_getLast u;generalize l.getLast u=y at*;have q3:(0:Int)<=(l.length:Int) - 1:=by omega
    have q7:(1:Int)<=(l.length:Int):=by omega
    have q4:(l.length:Int) - 1<l.length:=by omega
    have q5:((l.length:Int) - 1).toNat=l.length - 1:=by omega
    have q6:IntKind.i64.wrap ((l.length:Int) - 1)=(l.length:Int) - 1:=by rw [IntKind.wrap_i64];omega
    clear u;by_cases A:t=y
    ·have qn:(t !=y)=false:=by simp [A]
     have H:Hid (jU ((byt s).drop k)=none):=by
      unfold Hid;rw [z.out,L.out,if_neg (by simp [A])]
     clear A z G L;refine pz 13 (by kernel_rfl) (by kernel_rfl) ?_;simp only [List.take_succ_cons,List.take_zero,List.drop_succ_cons,List.drop_zero];iterate 3 (refine mK (by rfl) (fun K hK=>?_);go_simp;refine hK _ ?_;clear hK K)
     iterate 9 (refine mK (by rfl) (fun K hK=>?_);go_simp;refine hK _ ?_;clear hK K)
     refine mK (by rfl) (fun K hK=>?_);go_simp;refine hK _ ?_;clear hK K
     refine uM ?_;go_wp2_with (go_at_call 141;refine(jK _).mono ?_;rintro e w7 ⟨rfl,rfl⟩)
     exact⟨rfl,Or.inl ⟨H.out,rfl,il N.out.base (iy r.out.base)⟩⟩
    ·have qn:(t !=y)=true:=by simp [A]
     have H:Hid (lm (m - (j+1)) (l++List.replicate a t) ((byt s).drop k2)=jU ((byt s).drop k)):=by
      unfold Hid;rw [z.out,L.out,if_pos (by simp;exact fun e=>A e.symm)];rfl
     clear A z G L;refine pz 13 (by kernel_rfl) (by kernel_rfl) ?_;simp only [List.take_succ_cons,List.take_zero,List.drop_succ_cons,List.drop_zero];iterate 3 (refine mK (by rfl) (fun K hK=>?_);go_simp;refine hK _ ?_;clear hK K)
     iterate 9 (refine mK (by rfl) (fun K hK=>?_);go_simp;refine hK _ ?_;clear hK K)
     refine mK (by rfl) (fun K hK=>?_);go_simp;refine hK _ ?_;clear hK K
     refine uM ?_;go_wp2_with (first | (go_at_call 141;refine(j4 _).mono ?_;rintro e w7 ⟨⟨v7,rfl⟩,rfl⟩) | (go_at_call 102;refine ak.out.mono ?_;rintro e q ⟨sv,rfl,p,J,E,⟨z1,z2,z3,rfl⟩⟩))
     have S:=ij p;have T:=ij (Z.out _ _ p J E);clear p J E;go_wp2_with fail
     go_roundw
     case rel=>exact⟨j+1,l++List.replicate a t,k2,by omega,by first | rfl | go_num,ac.out,ae,T,S,H⟩
     case measure=>simp [intOf];omega
  ·have q1:¬(j:Int)<m:=by omega
   have ej:m - j=0:=by omega
   have Q:Hid (jU ((byt s).drop k)=some (l,(byt s).drop B)):=by unfold Hid;rw [<-M.out,ej,lm]
   clear ej;go_wp2_with fail
   go_ret;exact Or.inr ⟨l,_,_,B,Q.out,rfl,⟨aD,C.out⟩,N.out.trans f.out,rfl⟩
theorem DO(c:Nat)(hc:c<4294967296):bits .and .u32 (c:Int) 1=((c % 2:Nat):Int):=by
 have:=u32_and_nat c 1 hc (by decide);rw [nat_mask1]at this;exact this
theorem Ek(c:Nat)(hc:c<4294967296):bits .xor .u32 (c:Int) 3988292384=((c ^^^ 3988292384:Nat):Int):=u32_xor_nat c 3988292384 hc (by decide)
theorem DT(c:Nat)(hc:c<4294967296)(w:World):Calls Tryz.prog 170 #[.int .u32 c] w fun e w'=>e= .returned (.int .u32 (shN c))/\w'=w:=by
 have b:=DO c hc;have d:=Ek (c / 2) (by omega);by_cases h:c % 2=1
 ·have a:Hid (shN c=(c / 2) ^^^ 3988292384):=by unfold Hid shN;rw [if_pos h]
  rw [h]at b;go_enter Tryz.func170,Tryz.ntmps170
  go_wp2_with fail
  go_ret;refine⟨?_,rfl⟩;have e:((c:Int) / 2)=((c / 2:Nat):Int):=by omega
  rw [a.out,e,d];rfl
 ·have a:Hid (shN c=c / 2):=by unfold Hid shN;rw [if_neg h]
  have f:c % 2=0:=by omega
  rw [f]at b;go_enter Tryz.func170,Tryz.ntmps170
  go_wp2_with fail
  go_ret;refine⟨?_,rfl⟩;rw [a.out];have e:((c:Int) / 2)=((c / 2:Nat):Int):=by omega
  rw [e];rfl
theorem uD(s:ByteArray)(w:World)(hs:s.size<=9223372036854775806):Calls Tryz.prog 135 #[.string s] w fun e w'=>e= .returned (.int .u32 (lz (byt s)))/\jt w' w:=by
 go_enter Tryz.func135,Tryz.ntmps135
 go_wp2_with fail
 go_loopw [3,7] (fun cv i w'=>∃ (k:Nat) (c:Nat),k<=s.size/\cv= .int .u32 c/\i= .int .i64 k/\c<4294967296/\Hid (c=rT 4294967295 ((byt s).take k))/\Hid (jt w' w)) (fun _ i _=>s.size - (intOf i).toNat)
 case atStart=>exact⟨0,4294967295,Nat.zero_le _,rfl,rfl,by decide,ij rfl,ij (jq _)⟩
 case round=>
  obtain⟨k,c,hk,rfl,rfl,hc,l,f⟩:=hrel;obtain⟨b,v⟩:∃ b,b=wr:=⟨_,rfl⟩;subst v;by_cases q:k<s.size
  ·have A:(k:Int)<s.size:=by omega
   have hb:=s[k].toNat_lt;have m:=u32_xor_nat c s[k].toNat hc (by omega);have C:c ^^^ s[k].toNat<4294967296:=Nat.xor_lt_two_pow (n:=32) hc (by omega);have HX:Hid (rT 4294967295 ((byt s).take (k+1))=shK 8 (c ^^^ s[k].toNat)):=by
    unfold Hid;have u:k<(byt s).length:=by rw [iS];exact q
    have o:=ms s k q;rw [List.getElem?_eq_getElem u]at o;rw [<-List.take_append_getElem u,rK,<-l.out,Option.some.inj o];rfl
   generalize c ^^^ s[k].toNat=d at*;clear l;have x:=f;clear f;go_wp2_with fail
   go_loopw [3,16] (fun cv i w'=>∃ (j:Nat) (a:Nat),j<=8/\cv= .int .u32 a/\i= .int .i64 j/\a<4294967296/\Hid (a=shK j d)/\Hid (w'=b)) (fun _ i _=>8 - (intOf i).toNat)
   case atStart=>exact⟨0,d,Nat.zero_le _,rfl,rfl,C,ij rfl,ij rfl⟩
   case round=>
    obtain⟨j,a,hj,rfl,rfl,h,r,t⟩:=hrel;rw [t.out];clear t;by_cases hj8:j<8
    ·have z:(j:Int)<8:=by omega
     have B:Hid (shN a=shK (j+1) d):=by
      unfold Hid;rw [r.out,zy];rfl
     have y:=ij (Cs h);have E:=ij (DT a h b);go_wp2_with (go_at_call 170;refine E.out.mono ?_;rintro e w6 ⟨rfl,rfl⟩)
     go_roundw
     case rel=>exact⟨j+1,shN a,by omega,rfl,by first | rfl | (congr 1),y.out,B,by first | exact ij rfl | exact ij trivial⟩
     case measure=>simp [intOf];omega
    ·have z:¬(j:Int)<8:=by omega
     have F:j=8:=by omega
     subst F;go_wp2_with fail
     go_roundw
     case rel=>exact⟨k+1,a,by omega,rfl,by first | rfl | (congr 1),h,ij (by rw [HX.out];exact r.out),x⟩
     case measure=>simp [intOf];omega
  ·have A:¬(k:Int)<s.size:=by omega
   have m:=u32_xor_nat 4294967295 c (by decide) hc;have p:k=s.size:=by omega
   have D:Hid (lz (byt s)=4294967295 ^^^ c):=by
    unfold Hid lz;rw [l.out,p,<-iS,List.take_length]
   clear p;go_wp2_with fail
   go_ret;refine⟨?_,f.out⟩;rw [D.out,<-m];rfl
def i6:List Nat->List Nat->Option (Unit × List Nat)
 | [],l=>some ((),l)
 | _::_,[]=>none
 | x::xs,y::l=>if y=x then i6 xs l else none
theorem sI(xs l r:List Nat):i6 xs l=some ((),r)↔l=xs++r:=by
 induction xs generalizing l with
 | nil=>simp [i6]
 | cons x xs ih=>
  cases l with
  | nil=>simp [i6]
  | cons y l=>
   simp only [i6];by_cases h:y=x
   ·rw [if_pos h,ih,h];simp
   ·rw [if_neg h];simp [h]
theorem FV(W w:World)(b k:Nat)(s:ByteArray)(h:RdS W w b s k)(A:s.size<=9223372036854775806):
  Calls Tryz.prog 136 #[pt b] w (Rd W b s (fun _ _ _=>True) (i6 [82,82,1] ((byt s).drop k))):=by
 have J:=ij h;have H:pt b= .pointer (some ⟨b,0,none⟩):=rfl;rw [H];clear h H;go_enter Tryz.func136,Tryz.ntmps136
 go_wp2_with fail
 go_loopw [3] (fun i w'=>∃ (j c:Nat),j<=3/\i= .int .i64 j/\Hid (RdS W w' b s c)/\Hid (i6 ([82,82,1].drop j) ((byt s).drop c)=i6 [82,82,1] ((byt s).drop k))) (fun i _=>3 - (intOf i).toNat)
 case atStart=>exact⟨0,k,by omega,rfl,J,ij rfl⟩
 case round=>
  obtain⟨j,c,hj,rfl,z,r⟩:=hrel;obtain⟨t,E⟩:∃ t,t=wr:=⟨_,rfl⟩;rw [<-E]at z ⊢;clear E;have I:j=0\/j=1\/j=2\/j=3:=by omega
  rcases I with rfl | rfl | rfl | rfl
  ·have HX:Hid (([82,82,1]:List Nat).drop 0=82::[82,82,1].drop 1):=rfl;have F:(({ data:= #[82,82,1]}:ByteArray)[0]).toNat=82:=rfl;by_cases p:c<s.size
   ·have HB:=ij (lp s c p);have n:=ij (nB W t.drew b c s (z.out.grown (iy (ir _ _))) A p);generalize s[c].toNat=y at*;by_cases o:y=82
    ·have D:((y:Int)==82)=true:=by simp;omega
     have m:Hid (i6 (([82,82,1]).drop (1)) ((byt s).drop (c+1))=i6 ([82,82,1]) ((byt s).drop k)):=by
      unfold Hid;rw [<-r.out,HB.out,HX.out,i6,if_pos o]
     clear o;go_wp2_with fail
     refine iz (fun _=>True) 5 (by kernel_rfl) (by kernel_rfl) trivial ?_;intro x;refine gJ 0 ?v0_1 rfl (by kernel_rfl) (fun _ _ _ h=>h) (by rfl) ?y0_1 trivial ?_
     case y0_1=>(intro u a;go_simp;try rfl)
     simp only [Act.put,List.setIfInBounds_toArray];refine gJ 2 ?v2_2 rfl (by kernel_rfl) (fun _ _ _ h=>h) (by rfl) ?y2_2 trivial ?_
     case y2_2=>(intro u a;go_simp;try rfl)
     simp only [Act.put];refine gJ 3 ?v3_3 rfl (by kernel_rfl) (fun _ _ _ h=>h) (by rfl) ?y3_3 trivial ?_
     case y3_3=>(intro u a;go_simp;try rfl)
     simp only [Act.put];refine iu (i:=1) rfl (by kernel_rfl) (by kernel_rfl) (by rfl) ?_;intro v d;have l:=ij d;clear d;go_simp;refine n.out.mono ?_;rintro e w6 ⟨rfl,f⟩;have q:=ij f;clear f;refine l.out _ _ trivial ?_;clear l;try simp only [Act.put,List.setIfInBounds_toArray]
     refine gJ 4 ?v4_4 rfl (by kernel_rfl) (fun _ _ _ h=>h) (by rfl) ?y4_4 trivial ?_
     case y4_4=>(intro u a;go_simp;try rfl)
     simp only [Act.put];refine iH rfl (by kernel_rfl) (by kernel_rfl) (by rfl) ?_;go_simp;refine(j4 _).mono ?_;rintro e C ⟨⟨G,rfl⟩,rfl⟩;go_wp2_with fail
     go_roundw
     case rel=>exact⟨1,c+1,by omega,by first | rfl | go_num,q,m⟩
     case measure=>simp [intOf]
    ·have D:((y:Int)==82)=false:=by simp;omega
     have m:Hid (i6 ([82,82,1]) ((byt s).drop k)=none):=by
      unfold Hid;rw [<-r.out,HB.out,HX.out,i6,if_neg o]
     clear o;go_wp2_with fail
     refine iz (fun _=>True) 5 (by kernel_rfl) (by kernel_rfl) trivial ?_;intro x;refine gJ 0 ?v0_5 rfl (by kernel_rfl) (fun _ _ _ h=>h) (by rfl) ?y0_5 trivial ?_
     case y0_5=>(intro u a;go_simp;try rfl)
     simp only [Act.put,List.setIfInBounds_toArray];refine gJ 2 ?v2_6 rfl (by kernel_rfl) (fun _ _ _ h=>h) (by rfl) ?y2_6 trivial ?_
     case y2_6=>(intro u a;go_simp;try rfl)
     simp only [Act.put];refine gJ 3 ?v3_7 rfl (by kernel_rfl) (fun _ _ _ h=>h) (by rfl) ?y3_7 trivial ?_
     case y3_7=>(intro u a;go_simp;try rfl)
     simp only [Act.put];refine iu (i:=1) rfl (by kernel_rfl) (by kernel_rfl) (by rfl) ?_;intro v d;have l:=ij d;clear d;go_simp;refine n.out.mono ?_;rintro e w6 ⟨rfl,f⟩;have q:=ij f;clear f;refine l.out _ _ trivial ?_;clear l;try simp only [Act.put,List.setIfInBounds_toArray]
     refine gJ 4 ?v4_8 rfl (by kernel_rfl) (fun _ _ _ h=>h) (by rfl) ?y4_8 trivial ?_
     case y4_8=>(intro u a;go_simp;try rfl)
     simp only [Act.put];refine iH rfl (by kernel_rfl) (by kernel_rfl) (by rfl) ?_;go_simp;refine(jK _).mono ?_;rintro e C ⟨rfl,rfl⟩;exact⟨rfl,Or.inl ⟨m.out,rfl,q.out.base⟩⟩
   ·have B:Hid ((byt s).drop c=[]):=List.drop_eq_nil_iff.2 (by rw [iS];omega);have n:=ij (nG W t.drew b c s (z.out.grown (iy (ir _ _))) A p);have m:Hid (i6 ([82,82,1]) ((byt s).drop k)=none):=by
     unfold Hid;rw [<-r.out,B.out,HX.out,i6]
    go_wp2_with fail
    refine iz (fun _=>True) 5 (by kernel_rfl) (by kernel_rfl) trivial ?_;intro x;refine gJ 0 ?v0_9 rfl (by kernel_rfl) (fun _ _ _ h=>h) (by rfl) ?y0_9 trivial ?_
    case y0_9=>(intro u a;go_simp;try rfl)
    simp only [Act.put,List.setIfInBounds_toArray];refine gJ 2 ?v2_10 rfl (by kernel_rfl) (fun _ _ _ h=>h) (by rfl) ?y2_10 trivial ?_
    case y2_10=>(intro u a;go_simp;try rfl)
    simp only [Act.put];refine gJ 3 ?v3_11 rfl (by kernel_rfl) (fun _ _ _ h=>h) (by rfl) ?y3_11 trivial ?_
    case y3_11=>(intro u a;go_simp;try rfl)
    simp only [Act.put];refine iu (i:=1) rfl (by kernel_rfl) (by kernel_rfl) (by rfl) ?_;intro v d;have l:=ij d;clear d;go_simp;refine n.out.mono ?_;rintro e w6 ⟨rfl,f⟩;exact⟨rfl,Or.inl ⟨m.out,rfl,f⟩⟩
  ·have HX:Hid (([82,82,1]:List Nat).drop 1=82::[82,82,1].drop 2):=rfl;have F:(({ data:= #[82,82,1]}:ByteArray)[1]).toNat=82:=rfl;by_cases p:c<s.size
   ·have HB:=ij (lp s c p);have n:=ij (nB W t.drew b c s (z.out.grown (iy (ir _ _))) A p);generalize s[c].toNat=y at*;by_cases o:y=82
    ·have D:((y:Int)==82)=true:=by simp;omega
     have m:Hid (i6 (([82,82,1]).drop (2)) ((byt s).drop (c+1))=i6 ([82,82,1]) ((byt s).drop k)):=by
      unfold Hid;rw [<-r.out,HB.out,HX.out,i6,if_pos o]
     clear o;go_wp2_with fail
     refine iz (fun _=>True) 5 (by kernel_rfl) (by kernel_rfl) trivial ?_;intro x;refine gJ 0 ?v0_12 rfl (by kernel_rfl) (fun _ _ _ h=>h) (by rfl) ?y0_12 trivial ?_
     case y0_12=>(intro u a;go_simp;try rfl)
     simp only [Act.put,List.setIfInBounds_toArray];refine gJ 2 ?v2_13 rfl (by kernel_rfl) (fun _ _ _ h=>h) (by rfl) ?y2_13 trivial ?_
     case y2_13=>(intro u a;go_simp;try rfl)
     simp only [Act.put];refine gJ 3 ?v3_14 rfl (by kernel_rfl) (fun _ _ _ h=>h) (by rfl) ?y3_14 trivial ?_
     case y3_14=>(intro u a;go_simp;try rfl)
     simp only [Act.put];refine iu (i:=1) rfl (by kernel_rfl) (by kernel_rfl) (by rfl) ?_;intro v d;have l:=ij d;clear d;go_simp;refine n.out.mono ?_;rintro e w6 ⟨rfl,f⟩;have q:=ij f;clear f;refine l.out _ _ trivial ?_;clear l;try simp only [Act.put,List.setIfInBounds_toArray]
     refine gJ 4 ?v4_15 rfl (by kernel_rfl) (fun _ _ _ h=>h) (by rfl) ?y4_15 trivial ?_
     case y4_15=>(intro u a;go_simp;try rfl)
     simp only [Act.put];refine iH rfl (by kernel_rfl) (by kernel_rfl) (by rfl) ?_;go_simp;refine(j4 _).mono ?_;rintro e C ⟨⟨G,rfl⟩,rfl⟩;go_wp2_with fail
     go_roundw
     case rel=>exact⟨2,c+1,by omega,by first | rfl | go_num,q,m⟩
     case measure=>simp [intOf]
    ·have D:((y:Int)==82)=false:=by simp;omega
     have m:Hid (i6 ([82,82,1]) ((byt s).drop k)=none):=by
      unfold Hid;rw [<-r.out,HB.out,HX.out,i6,if_neg o]
     clear o;go_wp2_with fail
     refine iz (fun _=>True) 5 (by kernel_rfl) (by kernel_rfl) trivial ?_;intro x;refine gJ 0 ?v0_16 rfl (by kernel_rfl) (fun _ _ _ h=>h) (by rfl) ?y0_16 trivial ?_
     case y0_16=>(intro u a;go_simp;try rfl)
     simp only [Act.put,List.setIfInBounds_toArray];refine gJ 2 ?v2_17 rfl (by kernel_rfl) (fun _ _ _ h=>h) (by rfl) ?y2_17 trivial ?_
     case y2_17=>(intro u a;go_simp;try rfl)
     simp only [Act.put];refine gJ 3 ?v3_18 rfl (by kernel_rfl) (fun _ _ _ h=>h) (by rfl) ?y3_18 trivial ?_
     case y3_18=>(intro u a;go_simp;try rfl)
     simp only [Act.put];refine iu (i:=1) rfl (by kernel_rfl) (by kernel_rfl) (by rfl) ?_;intro v d;have l:=ij d;clear d;go_simp;refine n.out.mono ?_;rintro e w6 ⟨rfl,f⟩;have q:=ij f;clear f;refine l.out _ _ trivial ?_;clear l;try simp only [Act.put,List.setIfInBounds_toArray]
     refine gJ 4 ?v4_19 rfl (by kernel_rfl) (fun _ _ _ h=>h) (by rfl) ?y4_19 trivial ?_
     case y4_19=>(intro u a;go_simp;try rfl)
     simp only [Act.put];refine iH rfl (by kernel_rfl) (by kernel_rfl) (by rfl) ?_;go_simp;refine(jK _).mono ?_;rintro e C ⟨rfl,rfl⟩;exact⟨rfl,Or.inl ⟨m.out,rfl,q.out.base⟩⟩
   ·have B:Hid ((byt s).drop c=[]):=List.drop_eq_nil_iff.2 (by rw [iS];omega);have n:=ij (nG W t.drew b c s (z.out.grown (iy (ir _ _))) A p);have m:Hid (i6 ([82,82,1]) ((byt s).drop k)=none):=by
     unfold Hid;rw [<-r.out,B.out,HX.out,i6]
    go_wp2_with fail
    refine iz (fun _=>True) 5 (by kernel_rfl) (by kernel_rfl) trivial ?_;intro x;refine gJ 0 ?v0_20 rfl (by kernel_rfl) (fun _ _ _ h=>h) (by rfl) ?y0_20 trivial ?_
    case y0_20=>(intro u a;go_simp;try rfl)
    simp only [Act.put,List.setIfInBounds_toArray];refine gJ 2 ?v2_21 rfl (by kernel_rfl) (fun _ _ _ h=>h) (by rfl) ?y2_21 trivial ?_
    case y2_21=>(intro u a;go_simp;try rfl)
    simp only [Act.put];refine gJ 3 ?v3_22 rfl (by kernel_rfl) (fun _ _ _ h=>h) (by rfl) ?y3_22 trivial ?_
    case y3_22=>(intro u a;go_simp;try rfl)
    simp only [Act.put];refine iu (i:=1) rfl (by kernel_rfl) (by kernel_rfl) (by rfl) ?_;intro v d;have l:=ij d;clear d;go_simp;refine n.out.mono ?_;rintro e w6 ⟨rfl,f⟩;exact⟨rfl,Or.inl ⟨m.out,rfl,f⟩⟩
  ·have HX:Hid (([82,82,1]:List Nat).drop 2=1::[82,82,1].drop 3):=rfl;have F:(({ data:= #[82,82,1]}:ByteArray)[2]).toNat=1:=rfl;by_cases p:c<s.size
   ·have HB:=ij (lp s c p);have n:=ij (nB W t.drew b c s (z.out.grown (iy (ir _ _))) A p);generalize s[c].toNat=y at*;by_cases o:y=1
    ·have D:((y:Int)==1)=true:=by simp;omega
     have m:Hid (i6 (([82,82,1]).drop (3)) ((byt s).drop (c+1))=i6 ([82,82,1]) ((byt s).drop k)):=by
      unfold Hid;rw [<-r.out,HB.out,HX.out,i6,if_pos o]
     clear o;go_wp2_with fail
     refine iz (fun _=>True) 5 (by kernel_rfl) (by kernel_rfl) trivial ?_;intro x;refine gJ 0 ?v0_23 rfl (by kernel_rfl) (fun _ _ _ h=>h) (by rfl) ?y0_23 trivial ?_
     case y0_23=>(intro u a;go_simp;try rfl)
     simp only [Act.put,List.setIfInBounds_toArray];refine gJ 2 ?v2_24 rfl (by kernel_rfl) (fun _ _ _ h=>h) (by rfl) ?y2_24 trivial ?_
     case y2_24=>(intro u a;go_simp;try rfl)
     simp only [Act.put];refine gJ 3 ?v3_25 rfl (by kernel_rfl) (fun _ _ _ h=>h) (by rfl) ?y3_25 trivial ?_
     case y3_25=>(intro u a;go_simp;try rfl)
     simp only [Act.put];refine iu (i:=1) rfl (by kernel_rfl) (by kernel_rfl) (by rfl) ?_;intro v d;have l:=ij d;clear d;go_simp;refine n.out.mono ?_;rintro e w6 ⟨rfl,f⟩;have q:=ij f;clear f;refine l.out _ _ trivial ?_;clear l;try simp only [Act.put,List.setIfInBounds_toArray]
     refine gJ 4 ?v4_26 rfl (by kernel_rfl) (fun _ _ _ h=>h) (by rfl) ?y4_26 trivial ?_
     case y4_26=>(intro u a;go_simp;try rfl)
     simp only [Act.put];refine iH rfl (by kernel_rfl) (by kernel_rfl) (by rfl) ?_;go_simp;refine(j4 _).mono ?_;rintro e C ⟨⟨G,rfl⟩,rfl⟩;go_wp2_with fail
     go_roundw
     case rel=>exact⟨3,c+1,by omega,by first | rfl | go_num,q,m⟩
     case measure=>simp [intOf]
    ·have D:((y:Int)==1)=false:=by simp;omega
     have m:Hid (i6 ([82,82,1]) ((byt s).drop k)=none):=by
      unfold Hid;rw [<-r.out,HB.out,HX.out,i6,if_neg o]
     clear o;go_wp2_with fail
     refine iz (fun _=>True) 5 (by kernel_rfl) (by kernel_rfl) trivial ?_;intro x;refine gJ 0 ?v0_27 rfl (by kernel_rfl) (fun _ _ _ h=>h) (by rfl) ?y0_27 trivial ?_
     case y0_27=>(intro u a;go_simp;try rfl)
     simp only [Act.put,List.setIfInBounds_toArray];refine gJ 2 ?v2_28 rfl (by kernel_rfl) (fun _ _ _ h=>h) (by rfl) ?y2_28 trivial ?_
     case y2_28=>(intro u a;go_simp;try rfl)
     simp only [Act.put];refine gJ 3 ?v3_29 rfl (by kernel_rfl) (fun _ _ _ h=>h) (by rfl) ?y3_29 trivial ?_
     case y3_29=>(intro u a;go_simp;try rfl)
     simp only [Act.put];refine iu (i:=1) rfl (by kernel_rfl) (by kernel_rfl) (by rfl) ?_;intro v d;have l:=ij d;clear d;go_simp;refine n.out.mono ?_;rintro e w6 ⟨rfl,f⟩;have q:=ij f;clear f;refine l.out _ _ trivial ?_;clear l;try simp only [Act.put,List.setIfInBounds_toArray]
     refine gJ 4 ?v4_30 rfl (by kernel_rfl) (fun _ _ _ h=>h) (by rfl) ?y4_30 trivial ?_
     case y4_30=>(intro u a;go_simp;try rfl)
     simp only [Act.put];refine iH rfl (by kernel_rfl) (by kernel_rfl) (by rfl) ?_;go_simp;refine(jK _).mono ?_;rintro e C ⟨rfl,rfl⟩;exact⟨rfl,Or.inl ⟨m.out,rfl,q.out.base⟩⟩
   ·have B:Hid ((byt s).drop c=[]):=List.drop_eq_nil_iff.2 (by rw [iS];omega);have n:=ij (nG W t.drew b c s (z.out.grown (iy (ir _ _))) A p);have m:Hid (i6 ([82,82,1]) ((byt s).drop k)=none):=by
     unfold Hid;rw [<-r.out,B.out,HX.out,i6]
    go_wp2_with fail
    refine iz (fun _=>True) 5 (by kernel_rfl) (by kernel_rfl) trivial ?_;intro x;refine gJ 0 ?v0_31 rfl (by kernel_rfl) (fun _ _ _ h=>h) (by rfl) ?y0_31 trivial ?_
    case y0_31=>(intro u a;go_simp;try rfl)
    simp only [Act.put,List.setIfInBounds_toArray];refine gJ 2 ?v2_32 rfl (by kernel_rfl) (fun _ _ _ h=>h) (by rfl) ?y2_32 trivial ?_
    case y2_32=>(intro u a;go_simp;try rfl)
    simp only [Act.put];refine gJ 3 ?v3_33 rfl (by kernel_rfl) (fun _ _ _ h=>h) (by rfl) ?y3_33 trivial ?_
    case y3_33=>(intro u a;go_simp;try rfl)
    simp only [Act.put];refine iu (i:=1) rfl (by kernel_rfl) (by kernel_rfl) (by rfl) ?_;intro v d;have l:=ij d;clear d;go_simp;refine n.out.mono ?_;rintro e w6 ⟨rfl,f⟩;exact⟨rfl,Or.inl ⟨m.out,rfl,f⟩⟩
  ·have m:Hid (i6 [82,82,1] ((byt s).drop k)=some ((),(byt s).drop c)):=by
    unfold Hid;rw [<-r.out];rfl
   go_wp2_with fail
   go_end0
   exact Or.inr ⟨(),_,_,c,m.out,rfl,trivial,z.out,rfl⟩
theorem Cg(s:ByteArray)(k:Nat)(_h:k<=s.size):byt (s.extract 0 k)=(byt s).take k:=by
 unfold byt;rw [ByteArray.data_extract,Array.toList_extract,List.map_take];simp
theorem DZ(W w:World)(b k:Nat)(s:ByteArray)(h:RdS W w b s k)(B:s.size<=9223372036854775806):
  Calls Tryz.prog 140 #[pt b] w (Rd W b s (fun _ _ _=>True) (i6 (leB 4 (lz ((byt s).take k))) ((byt s).drop k))):=by
 have G:=ij h;have M:pt b= .pointer (some ⟨b,0,none⟩):=rfl;rw [M];clear h M;have c0:=G.out.c0;have c1:=G.out.c1;have q0:(0:Int)<=(k:Int):=by omega
 have q1:(k:Int)<=s.size:=by have:=G.out.le;omega
 have Q:k<=s.size:=G.out.le;have J:=ij (uD (s.extract 0 k) w.drew (by simp;omega));rw [Cg s k Q]at J;have hC:lz ((byt s).take k)<4294967296:=zL _ (fun x hx=>vc s x (List.mem_of_mem_take hx));generalize lz ((byt s).take k)=C at*;go_enter Tryz.func140,Tryz.ntmps140
 go_wp2_with fail
 go_still_tail 9,(by kernel_rfl)
 have O:Hid (RdS W w.drew b s k):=G.out.grown (iy (ir _ _));clear c0 c1 G;go_wp2_with (go_at_call 135;refine J.out.mono ?_;rintro e w2 ⟨rfl,K⟩;have N:=ij (O.out.grown (iK K));clear K)
 go_loopw [14] (fun i w'=>∃ (j c:Nat),j<=4/\i= .int .i64 j/\Hid (RdS W w' b s c)/\Hid (i6 ((leB 4 C).drop j) ((byt s).drop c)=i6 (leB 4 C) ((byt s).drop k))) (fun i _=>4 - (intOf i).toNat)
 case atStart=>exact⟨0,k,by omega,rfl,N,ij rfl⟩
 case round=>
  obtain⟨j,c,hj,rfl,A,r⟩:=hrel;obtain⟨z,L⟩:∃ z,z=wr:=⟨_,rfl⟩;rw [<-L]at A ⊢;clear L;have P:j=0\/j=1\/j=2\/j=3\/j=4:=by omega
  rcases P with rfl | rfl | rfl | rfl | rfl
  ·have HX:Hid ((leB 4 C).drop 0=(C % 256)::(leB 4 C).drop 1):=by unfold Hid;simp [leB,Nat.div_div_eq_div_mul]
   have I:IntKind.i64.wrap 0=0:=by decide
   by_cases q:c<s.size
   ·have HB:=ij (lp s c q);have o:=ij (nB W z.drew b c s (A.out.grown (iy (ir _ _))) B q);generalize s[c].toNat=y at*;by_cases n:y=C % 256
    ·have F:((y:Int)==IntKind.u8.wrap ((C:Int)))=true:=by rw [IntKind.wrap_u8'];simp;omega
     have m:Hid (i6 ((leB 4 C).drop (1)) ((byt s).drop (c+1))=i6 (leB 4 C) ((byt s).drop k)):=by
      unfold Hid;rw [<-r.out,HB.out,HX.out,i6,if_pos n]
     clear n;go_wp2_with fail
     refine iz (fun _=>True) 8 (by kernel_rfl) (by kernel_rfl) trivial ?_;intro v;refine gJ 0 ?v0_1 rfl (by kernel_rfl) (fun _ _ _ h=>h) (by rfl) ?y0_1 trivial ?_
     case y0_1=>(intro u a;go_simp;try rfl)
     simp only [Act.put,List.setIfInBounds_toArray];refine gJ 2 ?v2_2 rfl (by kernel_rfl) (fun _ _ _ h=>h) (by rfl) ?y2_2 trivial ?_
     case y2_2=>(intro u a;go_simp;try rfl)
     simp only [Act.put];refine gJ 3 ?v3_3 rfl (by kernel_rfl) (fun _ _ _ h=>h) (by rfl) ?y3_3 trivial ?_
     case y3_3=>(intro u a;go_simp;try rfl)
     simp only [Act.put];refine gJ 4 ?v4_4 rfl (by kernel_rfl) (fun _ _ _ h=>h) (by rfl) ?y4_4 trivial ?_
     case y4_4=>(intro u a;go_simp;try rfl)
     simp only [Act.put];refine gJ 5 ?v5_5 rfl (by kernel_rfl) (fun _ _ _ h=>h) (by rfl) ?y5_5 trivial ?_
     case y5_5=>(intro u a;go_simp;try rfl)
     simp only [Act.put];refine gJ 6 ?v6_6 rfl (by kernel_rfl) (fun _ _ _ h=>h) (by rfl) ?y6_6 trivial ?_
     case y6_6=>(intro u a;go_simp;try rfl)
     simp only [Act.put];refine iu (i:=1) rfl (by kernel_rfl) (by kernel_rfl) (by rfl) ?_;intro t d;have l:=ij d;clear d;go_simp;refine o.out.mono ?_;rintro e w6 ⟨rfl,f⟩;have p:=ij f;clear f;refine l.out _ _ trivial ?_;clear l;try simp only [Act.put,List.setIfInBounds_toArray]
     refine gJ 7 ?v7_7 rfl (by kernel_rfl) (fun _ _ _ h=>h) (by rfl) ?y7_7 trivial ?_
     case y7_7=>(intro u a;go_simp;try rfl)
     simp only [Act.put];refine iH rfl (by kernel_rfl) (by kernel_rfl) (by rfl) ?_;go_simp;refine(j4 _).mono ?_;rintro e D ⟨⟨H,rfl⟩,rfl⟩;go_wp2_with fail
     go_roundw
     case rel=>exact⟨1,c+1,by omega,by first | rfl | go_num,p,m⟩
     case measure=>simp [intOf]
    ·have F:((y:Int)==IntKind.u8.wrap ((C:Int)))=false:=by rw [IntKind.wrap_u8'];simp;omega
     have m:Hid (i6 (leB 4 C) ((byt s).drop k)=none):=by
      unfold Hid;rw [<-r.out,HB.out,HX.out,i6,if_neg n]
     clear n;go_wp2_with fail
     refine iz (fun _=>True) 8 (by kernel_rfl) (by kernel_rfl) trivial ?_;intro v;refine gJ 0 ?v0_8 rfl (by kernel_rfl) (fun _ _ _ h=>h) (by rfl) ?y0_8 trivial ?_
     case y0_8=>(intro u a;go_simp;try rfl)
     simp only [Act.put,List.setIfInBounds_toArray];refine gJ 2 ?v2_9 rfl (by kernel_rfl) (fun _ _ _ h=>h) (by rfl) ?y2_9 trivial ?_
     case y2_9=>(intro u a;go_simp;try rfl)
     simp only [Act.put];refine gJ 3 ?v3_10 rfl (by kernel_rfl) (fun _ _ _ h=>h) (by rfl) ?y3_10 trivial ?_
     case y3_10=>(intro u a;go_simp;try rfl)
     simp only [Act.put];refine gJ 4 ?v4_11 rfl (by kernel_rfl) (fun _ _ _ h=>h) (by rfl) ?y4_11 trivial ?_
     case y4_11=>(intro u a;go_simp;try rfl)
     simp only [Act.put];refine gJ 5 ?v5_12 rfl (by kernel_rfl) (fun _ _ _ h=>h) (by rfl) ?y5_12 trivial ?_
     case y5_12=>(intro u a;go_simp;try rfl)
     simp only [Act.put];refine gJ 6 ?v6_13 rfl (by kernel_rfl) (fun _ _ _ h=>h) (by rfl) ?y6_13 trivial ?_
     case y6_13=>(intro u a;go_simp;try rfl)
     simp only [Act.put];refine iu (i:=1) rfl (by kernel_rfl) (by kernel_rfl) (by rfl) ?_;intro t d;have l:=ij d;clear d;go_simp;refine o.out.mono ?_;rintro e w6 ⟨rfl,f⟩;have p:=ij f;clear f;refine l.out _ _ trivial ?_;clear l;try simp only [Act.put,List.setIfInBounds_toArray]
     refine gJ 7 ?v7_14 rfl (by kernel_rfl) (fun _ _ _ h=>h) (by rfl) ?y7_14 trivial ?_
     case y7_14=>(intro u a;go_simp;try rfl)
     simp only [Act.put];refine iH rfl (by kernel_rfl) (by kernel_rfl) (by rfl) ?_;go_simp;refine(jK _).mono ?_;rintro e D ⟨rfl,rfl⟩;exact⟨rfl,Or.inl ⟨m.out,rfl,p.out.base⟩⟩
   ·have E:Hid ((byt s).drop c=[]):=List.drop_eq_nil_iff.2 (by rw [iS];omega);have o:=ij (nG W z.drew b c s (A.out.grown (iy (ir _ _))) B q);have m:Hid (i6 (leB 4 C) ((byt s).drop k)=none):=by
     unfold Hid;rw [<-r.out,E.out,HX.out,i6]
    go_wp2_with fail
    refine iz (fun _=>True) 8 (by kernel_rfl) (by kernel_rfl) trivial ?_;intro v;refine gJ 0 ?v0_15 rfl (by kernel_rfl) (fun _ _ _ h=>h) (by rfl) ?y0_15 trivial ?_
    case y0_15=>(intro u a;go_simp;try rfl)
    simp only [Act.put,List.setIfInBounds_toArray];refine gJ 2 ?v2_16 rfl (by kernel_rfl) (fun _ _ _ h=>h) (by rfl) ?y2_16 trivial ?_
    case y2_16=>(intro u a;go_simp;try rfl)
    simp only [Act.put];refine gJ 3 ?v3_17 rfl (by kernel_rfl) (fun _ _ _ h=>h) (by rfl) ?y3_17 trivial ?_
    case y3_17=>(intro u a;go_simp;try rfl)
    simp only [Act.put];refine gJ 4 ?v4_18 rfl (by kernel_rfl) (fun _ _ _ h=>h) (by rfl) ?y4_18 trivial ?_
    case y4_18=>(intro u a;go_simp;try rfl)
    simp only [Act.put];refine gJ 5 ?v5_19 rfl (by kernel_rfl) (fun _ _ _ h=>h) (by rfl) ?y5_19 trivial ?_
    case y5_19=>(intro u a;go_simp;try rfl)
    simp only [Act.put];refine gJ 6 ?v6_20 rfl (by kernel_rfl) (fun _ _ _ h=>h) (by rfl) ?y6_20 trivial ?_
    case y6_20=>(intro u a;go_simp;try rfl)
    simp only [Act.put];refine iu (i:=1) rfl (by kernel_rfl) (by kernel_rfl) (by rfl) ?_;intro t d;have l:=ij d;clear d;go_simp;refine o.out.mono ?_;rintro e w6 ⟨rfl,f⟩;exact⟨rfl,Or.inl ⟨m.out,rfl,f⟩⟩
  ·have HX:Hid ((leB 4 C).drop 1=(C / 256 % 256)::(leB 4 C).drop 2):=by unfold Hid;simp [leB,Nat.div_div_eq_div_mul]
   have I:IntKind.i64.wrap 8=8:=by decide
   by_cases q:c<s.size
   ·have HB:=ij (lp s c q);have o:=ij (nB W z.drew b c s (A.out.grown (iy (ir _ _))) B q);generalize s[c].toNat=y at*;by_cases n:y=C / 256 % 256
    ·have F:((y:Int)==IntKind.u8.wrap ((C:Int) / 256))=true:=by rw [IntKind.wrap_u8'];simp;omega
     have m:Hid (i6 ((leB 4 C).drop (2)) ((byt s).drop (c+1))=i6 (leB 4 C) ((byt s).drop k)):=by
      unfold Hid;rw [<-r.out,HB.out,HX.out,i6,if_pos n]
     clear n;go_wp2_with fail
     refine iz (fun _=>True) 8 (by kernel_rfl) (by kernel_rfl) trivial ?_;intro v;refine gJ 0 ?v0_21 rfl (by kernel_rfl) (fun _ _ _ h=>h) (by rfl) ?y0_21 trivial ?_
     case y0_21=>(intro u a;go_simp;try rfl)
     simp only [Act.put,List.setIfInBounds_toArray];refine gJ 2 ?v2_22 rfl (by kernel_rfl) (fun _ _ _ h=>h) (by rfl) ?y2_22 trivial ?_
     case y2_22=>(intro u a;go_simp;try rfl)
     simp only [Act.put];refine gJ 3 ?v3_23 rfl (by kernel_rfl) (fun _ _ _ h=>h) (by rfl) ?y3_23 trivial ?_
     case y3_23=>(intro u a;go_simp;try rfl)
     simp only [Act.put];refine gJ 4 ?v4_24 rfl (by kernel_rfl) (fun _ _ _ h=>h) (by rfl) ?y4_24 trivial ?_
     case y4_24=>(intro u a;go_simp;try rfl)
     simp only [Act.put];refine gJ 5 ?v5_25 rfl (by kernel_rfl) (fun _ _ _ h=>h) (by rfl) ?y5_25 trivial ?_
     case y5_25=>(intro u a;go_simp;try rfl)
     simp only [Act.put];refine gJ 6 ?v6_26 rfl (by kernel_rfl) (fun _ _ _ h=>h) (by rfl) ?y6_26 trivial ?_
     case y6_26=>(intro u a;go_simp;try rfl)
     simp only [Act.put];refine iu (i:=1) rfl (by kernel_rfl) (by kernel_rfl) (by rfl) ?_;intro t d;have l:=ij d;clear d;go_simp;refine o.out.mono ?_;rintro e w6 ⟨rfl,f⟩;have p:=ij f;clear f;refine l.out _ _ trivial ?_;clear l;try simp only [Act.put,List.setIfInBounds_toArray]
     refine gJ 7 ?v7_27 rfl (by kernel_rfl) (fun _ _ _ h=>h) (by rfl) ?y7_27 trivial ?_
     case y7_27=>(intro u a;go_simp;try rfl)
     simp only [Act.put];refine iH rfl (by kernel_rfl) (by kernel_rfl) (by rfl) ?_;go_simp;refine(j4 _).mono ?_;rintro e D ⟨⟨H,rfl⟩,rfl⟩;go_wp2_with fail
     go_roundw
     case rel=>exact⟨2,c+1,by omega,by first | rfl | go_num,p,m⟩
     case measure=>simp [intOf]
    ·have F:((y:Int)==IntKind.u8.wrap ((C:Int) / 256))=false:=by rw [IntKind.wrap_u8'];simp;omega
     have m:Hid (i6 (leB 4 C) ((byt s).drop k)=none):=by
      unfold Hid;rw [<-r.out,HB.out,HX.out,i6,if_neg n]
     clear n;go_wp2_with fail
     refine iz (fun _=>True) 8 (by kernel_rfl) (by kernel_rfl) trivial ?_;intro v;refine gJ 0 ?v0_28 rfl (by kernel_rfl) (fun _ _ _ h=>h) (by rfl) ?y0_28 trivial ?_
     case y0_28=>(intro u a;go_simp;try rfl)
     simp only [Act.put,List.setIfInBounds_toArray];refine gJ 2 ?v2_29 rfl (by kernel_rfl) (fun _ _ _ h=>h) (by rfl) ?y2_29 trivial ?_
     case y2_29=>(intro u a;go_simp;try rfl)
     simp only [Act.put];refine gJ 3 ?v3_30 rfl (by kernel_rfl) (fun _ _ _ h=>h) (by rfl) ?y3_30 trivial ?_
     case y3_30=>(intro u a;go_simp;try rfl)
     simp only [Act.put];refine gJ 4 ?v4_31 rfl (by kernel_rfl) (fun _ _ _ h=>h) (by rfl) ?y4_31 trivial ?_
     case y4_31=>(intro u a;go_simp;try rfl)
     simp only [Act.put];refine gJ 5 ?v5_32 rfl (by kernel_rfl) (fun _ _ _ h=>h) (by rfl) ?y5_32 trivial ?_
     case y5_32=>(intro u a;go_simp;try rfl)
     simp only [Act.put];refine gJ 6 ?v6_33 rfl (by kernel_rfl) (fun _ _ _ h=>h) (by rfl) ?y6_33 trivial ?_
     case y6_33=>(intro u a;go_simp;try rfl)
     simp only [Act.put];refine iu (i:=1) rfl (by kernel_rfl) (by kernel_rfl) (by rfl) ?_;intro t d;have l:=ij d;clear d;go_simp;refine o.out.mono ?_;rintro e w6 ⟨rfl,f⟩;have p:=ij f;clear f;refine l.out _ _ trivial ?_;clear l;try simp only [Act.put,List.setIfInBounds_toArray]
     refine gJ 7 ?v7_34 rfl (by kernel_rfl) (fun _ _ _ h=>h) (by rfl) ?y7_34 trivial ?_
     case y7_34=>(intro u a;go_simp;try rfl)
     simp only [Act.put];refine iH rfl (by kernel_rfl) (by kernel_rfl) (by rfl) ?_;go_simp;refine(jK _).mono ?_;rintro e D ⟨rfl,rfl⟩;exact⟨rfl,Or.inl ⟨m.out,rfl,p.out.base⟩⟩
   ·have E:Hid ((byt s).drop c=[]):=List.drop_eq_nil_iff.2 (by rw [iS];omega);have o:=ij (nG W z.drew b c s (A.out.grown (iy (ir _ _))) B q);have m:Hid (i6 (leB 4 C) ((byt s).drop k)=none):=by
     unfold Hid;rw [<-r.out,E.out,HX.out,i6]
    go_wp2_with fail
    refine iz (fun _=>True) 8 (by kernel_rfl) (by kernel_rfl) trivial ?_;intro v;refine gJ 0 ?v0_35 rfl (by kernel_rfl) (fun _ _ _ h=>h) (by rfl) ?y0_35 trivial ?_
    case y0_35=>(intro u a;go_simp;try rfl)
    simp only [Act.put,List.setIfInBounds_toArray];refine gJ 2 ?v2_36 rfl (by kernel_rfl) (fun _ _ _ h=>h) (by rfl) ?y2_36 trivial ?_
    case y2_36=>(intro u a;go_simp;try rfl)
    simp only [Act.put];refine gJ 3 ?v3_37 rfl (by kernel_rfl) (fun _ _ _ h=>h) (by rfl) ?y3_37 trivial ?_
    case y3_37=>(intro u a;go_simp;try rfl)
    simp only [Act.put];refine gJ 4 ?v4_38 rfl (by kernel_rfl) (fun _ _ _ h=>h) (by rfl) ?y4_38 trivial ?_
    case y4_38=>(intro u a;go_simp;try rfl)
    simp only [Act.put];refine gJ 5 ?v5_39 rfl (by kernel_rfl) (fun _ _ _ h=>h) (by rfl) ?y5_39 trivial ?_
    case y5_39=>(intro u a;go_simp;try rfl)
    simp only [Act.put];refine gJ 6 ?v6_40 rfl (by kernel_rfl) (fun _ _ _ h=>h) (by rfl) ?y6_40 trivial ?_
    case y6_40=>(intro u a;go_simp;try rfl)
    simp only [Act.put];refine iu (i:=1) rfl (by kernel_rfl) (by kernel_rfl) (by rfl) ?_;intro t d;have l:=ij d;clear d;go_simp;refine o.out.mono ?_;rintro e w6 ⟨rfl,f⟩;exact⟨rfl,Or.inl ⟨m.out,rfl,f⟩⟩
  ·have HX:Hid ((leB 4 C).drop 2=(C / 65536 % 256)::(leB 4 C).drop 3):=by unfold Hid;simp [leB,Nat.div_div_eq_div_mul]
   have I:IntKind.i64.wrap 16=16:=by decide
   by_cases q:c<s.size
   ·have HB:=ij (lp s c q);have o:=ij (nB W z.drew b c s (A.out.grown (iy (ir _ _))) B q);generalize s[c].toNat=y at*;by_cases n:y=C / 65536 % 256
    ·have F:((y:Int)==IntKind.u8.wrap ((C:Int) / 65536))=true:=by rw [IntKind.wrap_u8'];simp;omega
     have m:Hid (i6 ((leB 4 C).drop (3)) ((byt s).drop (c+1))=i6 (leB 4 C) ((byt s).drop k)):=by
      unfold Hid;rw [<-r.out,HB.out,HX.out,i6,if_pos n]
     clear n;go_wp2_with fail
     refine iz (fun _=>True) 8 (by kernel_rfl) (by kernel_rfl) trivial ?_;intro v;refine gJ 0 ?v0_41 rfl (by kernel_rfl) (fun _ _ _ h=>h) (by rfl) ?y0_41 trivial ?_
     case y0_41=>(intro u a;go_simp;try rfl)
     simp only [Act.put,List.setIfInBounds_toArray];refine gJ 2 ?v2_42 rfl (by kernel_rfl) (fun _ _ _ h=>h) (by rfl) ?y2_42 trivial ?_
     case y2_42=>(intro u a;go_simp;try rfl)
     simp only [Act.put];refine gJ 3 ?v3_43 rfl (by kernel_rfl) (fun _ _ _ h=>h) (by rfl) ?y3_43 trivial ?_
     case y3_43=>(intro u a;go_simp;try rfl)
     simp only [Act.put];refine gJ 4 ?v4_44 rfl (by kernel_rfl) (fun _ _ _ h=>h) (by rfl) ?y4_44 trivial ?_
     case y4_44=>(intro u a;go_simp;try rfl)
     simp only [Act.put];refine gJ 5 ?v5_45 rfl (by kernel_rfl) (fun _ _ _ h=>h) (by rfl) ?y5_45 trivial ?_
     case y5_45=>(intro u a;go_simp;try rfl)
     simp only [Act.put];refine gJ 6 ?v6_46 rfl (by kernel_rfl) (fun _ _ _ h=>h) (by rfl) ?y6_46 trivial ?_
     case y6_46=>(intro u a;go_simp;try rfl)
     simp only [Act.put];refine iu (i:=1) rfl (by kernel_rfl) (by kernel_rfl) (by rfl) ?_;intro t d;have l:=ij d;clear d;go_simp;refine o.out.mono ?_;rintro e w6 ⟨rfl,f⟩;have p:=ij f;clear f;refine l.out _ _ trivial ?_;clear l;try simp only [Act.put,List.setIfInBounds_toArray]
     refine gJ 7 ?v7_47 rfl (by kernel_rfl) (fun _ _ _ h=>h) (by rfl) ?y7_47 trivial ?_
     case y7_47=>(intro u a;go_simp;try rfl)
     simp only [Act.put];refine iH rfl (by kernel_rfl) (by kernel_rfl) (by rfl) ?_;go_simp;refine(j4 _).mono ?_;rintro e D ⟨⟨H,rfl⟩,rfl⟩;go_wp2_with fail
     go_roundw
     case rel=>exact⟨3,c+1,by omega,by first | rfl | go_num,p,m⟩
     case measure=>simp [intOf]
    ·have F:((y:Int)==IntKind.u8.wrap ((C:Int) / 65536))=false:=by rw [IntKind.wrap_u8'];simp;omega
     have m:Hid (i6 (leB 4 C) ((byt s).drop k)=none):=by
      unfold Hid;rw [<-r.out,HB.out,HX.out,i6,if_neg n]
     clear n;go_wp2_with fail
     refine iz (fun _=>True) 8 (by kernel_rfl) (by kernel_rfl) trivial ?_;intro v;refine gJ 0 ?v0_48 rfl (by kernel_rfl) (fun _ _ _ h=>h) (by rfl) ?y0_48 trivial ?_
     case y0_48=>(intro u a;go_simp;try rfl)
     simp only [Act.put,List.setIfInBounds_toArray];refine gJ 2 ?v2_49 rfl (by kernel_rfl) (fun _ _ _ h=>h) (by rfl) ?y2_49 trivial ?_
     case y2_49=>(intro u a;go_simp;try rfl)
     simp only [Act.put];refine gJ 3 ?v3_50 rfl (by kernel_rfl) (fun _ _ _ h=>h) (by rfl) ?y3_50 trivial ?_
     case y3_50=>(intro u a;go_simp;try rfl)
     simp only [Act.put];refine gJ 4 ?v4_51 rfl (by kernel_rfl) (fun _ _ _ h=>h) (by rfl) ?y4_51 trivial ?_
     case y4_51=>(intro u a;go_simp;try rfl)
     simp only [Act.put];refine gJ 5 ?v5_52 rfl (by kernel_rfl) (fun _ _ _ h=>h) (by rfl) ?y5_52 trivial ?_
     case y5_52=>(intro u a;go_simp;try rfl)
     simp only [Act.put];refine gJ 6 ?v6_53 rfl (by kernel_rfl) (fun _ _ _ h=>h) (by rfl) ?y6_53 trivial ?_
     case y6_53=>(intro u a;go_simp;try rfl)
     simp only [Act.put];refine iu (i:=1) rfl (by kernel_rfl) (by kernel_rfl) (by rfl) ?_;intro t d;have l:=ij d;clear d;go_simp;refine o.out.mono ?_;rintro e w6 ⟨rfl,f⟩;have p:=ij f;clear f;refine l.out _ _ trivial ?_;clear l;try simp only [Act.put,List.setIfInBounds_toArray]
     refine gJ 7 ?v7_54 rfl (by kernel_rfl) (fun _ _ _ h=>h) (by rfl) ?y7_54 trivial ?_
     case y7_54=>(intro u a;go_simp;try rfl)
     simp only [Act.put];refine iH rfl (by kernel_rfl) (by kernel_rfl) (by rfl) ?_;go_simp;refine(jK _).mono ?_;rintro e D ⟨rfl,rfl⟩;exact⟨rfl,Or.inl ⟨m.out,rfl,p.out.base⟩⟩
   ·have E:Hid ((byt s).drop c=[]):=List.drop_eq_nil_iff.2 (by rw [iS];omega);have o:=ij (nG W z.drew b c s (A.out.grown (iy (ir _ _))) B q);have m:Hid (i6 (leB 4 C) ((byt s).drop k)=none):=by
     unfold Hid;rw [<-r.out,E.out,HX.out,i6]
    go_wp2_with fail
    refine iz (fun _=>True) 8 (by kernel_rfl) (by kernel_rfl) trivial ?_;intro v;refine gJ 0 ?v0_55 rfl (by kernel_rfl) (fun _ _ _ h=>h) (by rfl) ?y0_55 trivial ?_
    case y0_55=>(intro u a;go_simp;try rfl)
    simp only [Act.put,List.setIfInBounds_toArray];refine gJ 2 ?v2_56 rfl (by kernel_rfl) (fun _ _ _ h=>h) (by rfl) ?y2_56 trivial ?_
    case y2_56=>(intro u a;go_simp;try rfl)
    simp only [Act.put];refine gJ 3 ?v3_57 rfl (by kernel_rfl) (fun _ _ _ h=>h) (by rfl) ?y3_57 trivial ?_
    case y3_57=>(intro u a;go_simp;try rfl)
    simp only [Act.put];refine gJ 4 ?v4_58 rfl (by kernel_rfl) (fun _ _ _ h=>h) (by rfl) ?y4_58 trivial ?_
    case y4_58=>(intro u a;go_simp;try rfl)
    simp only [Act.put];refine gJ 5 ?v5_59 rfl (by kernel_rfl) (fun _ _ _ h=>h) (by rfl) ?y5_59 trivial ?_
    case y5_59=>(intro u a;go_simp;try rfl)
    simp only [Act.put];refine gJ 6 ?v6_60 rfl (by kernel_rfl) (fun _ _ _ h=>h) (by rfl) ?y6_60 trivial ?_
    case y6_60=>(intro u a;go_simp;try rfl)
    simp only [Act.put];refine iu (i:=1) rfl (by kernel_rfl) (by kernel_rfl) (by rfl) ?_;intro t d;have l:=ij d;clear d;go_simp;refine o.out.mono ?_;rintro e w6 ⟨rfl,f⟩;exact⟨rfl,Or.inl ⟨m.out,rfl,f⟩⟩
  ·have HX:Hid ((leB 4 C).drop 3=(C / 16777216 % 256)::(leB 4 C).drop 4):=by unfold Hid;simp [leB,Nat.div_div_eq_div_mul]
   have I:IntKind.i64.wrap 24=24:=by decide
   by_cases q:c<s.size
   ·have HB:=ij (lp s c q);have o:=ij (nB W z.drew b c s (A.out.grown (iy (ir _ _))) B q);generalize s[c].toNat=y at*;by_cases n:y=C / 16777216 % 256
    ·have F:((y:Int)==IntKind.u8.wrap ((C:Int) / 16777216))=true:=by rw [IntKind.wrap_u8'];simp;omega
     have m:Hid (i6 ((leB 4 C).drop (4)) ((byt s).drop (c+1))=i6 (leB 4 C) ((byt s).drop k)):=by
      unfold Hid;rw [<-r.out,HB.out,HX.out,i6,if_pos n]
     clear n;go_wp2_with fail
     refine iz (fun _=>True) 8 (by kernel_rfl) (by kernel_rfl) trivial ?_;intro v;refine gJ 0 ?v0_61 rfl (by kernel_rfl) (fun _ _ _ h=>h) (by rfl) ?y0_61 trivial ?_
     case y0_61=>(intro u a;go_simp;try rfl)
     simp only [Act.put,List.setIfInBounds_toArray];refine gJ 2 ?v2_62 rfl (by kernel_rfl) (fun _ _ _ h=>h) (by rfl) ?y2_62 trivial ?_
     case y2_62=>(intro u a;go_simp;try rfl)
     simp only [Act.put];refine gJ 3 ?v3_63 rfl (by kernel_rfl) (fun _ _ _ h=>h) (by rfl) ?y3_63 trivial ?_
     case y3_63=>(intro u a;go_simp;try rfl)
     simp only [Act.put];refine gJ 4 ?v4_64 rfl (by kernel_rfl) (fun _ _ _ h=>h) (by rfl) ?y4_64 trivial ?_
     case y4_64=>(intro u a;go_simp;try rfl)
     simp only [Act.put];refine gJ 5 ?v5_65 rfl (by kernel_rfl) (fun _ _ _ h=>h) (by rfl) ?y5_65 trivial ?_
     case y5_65=>(intro u a;go_simp;try rfl)
     simp only [Act.put];refine gJ 6 ?v6_66 rfl (by kernel_rfl) (fun _ _ _ h=>h) (by rfl) ?y6_66 trivial ?_
     case y6_66=>(intro u a;go_simp;try rfl)
     simp only [Act.put];refine iu (i:=1) rfl (by kernel_rfl) (by kernel_rfl) (by rfl) ?_;intro t d;have l:=ij d;clear d;go_simp;refine o.out.mono ?_;rintro e w6 ⟨rfl,f⟩;have p:=ij f;clear f;refine l.out _ _ trivial ?_;clear l;try simp only [Act.put,List.setIfInBounds_toArray]
     refine gJ 7 ?v7_67 rfl (by kernel_rfl) (fun _ _ _ h=>h) (by rfl) ?y7_67 trivial ?_
     case y7_67=>(intro u a;go_simp;try rfl)
     simp only [Act.put];refine iH rfl (by kernel_rfl) (by kernel_rfl) (by rfl) ?_;go_simp;refine(j4 _).mono ?_;rintro e D ⟨⟨H,rfl⟩,rfl⟩;go_wp2_with fail
     go_roundw
     case rel=>exact⟨4,c+1,by omega,by first | rfl | go_num,p,m⟩
     case measure=>simp [intOf]
    ·have F:((y:Int)==IntKind.u8.wrap ((C:Int) / 16777216))=false:=by rw [IntKind.wrap_u8'];simp;omega
     have m:Hid (i6 (leB 4 C) ((byt s).drop k)=none):=by
      unfold Hid;rw [<-r.out,HB.out,HX.out,i6,if_neg n]
     clear n;go_wp2_with fail
     refine iz (fun _=>True) 8 (by kernel_rfl) (by kernel_rfl) trivial ?_;intro v;refine gJ 0 ?v0_68 rfl (by kernel_rfl) (fun _ _ _ h=>h) (by rfl) ?y0_68 trivial ?_
     case y0_68=>(intro u a;go_simp;try rfl)
     simp only [Act.put,List.setIfInBounds_toArray];refine gJ 2 ?v2_69 rfl (by kernel_rfl) (fun _ _ _ h=>h) (by rfl) ?y2_69 trivial ?_
     case y2_69=>(intro u a;go_simp;try rfl)
     simp only [Act.put];refine gJ 3 ?v3_70 rfl (by kernel_rfl) (fun _ _ _ h=>h) (by rfl) ?y3_70 trivial ?_
     case y3_70=>(intro u a;go_simp;try rfl)
     simp only [Act.put];refine gJ 4 ?v4_71 rfl (by kernel_rfl) (fun _ _ _ h=>h) (by rfl) ?y4_71 trivial ?_
     case y4_71=>(intro u a;go_simp;try rfl)
     simp only [Act.put];refine gJ 5 ?v5_72 rfl (by kernel_rfl) (fun _ _ _ h=>h) (by rfl) ?y5_72 trivial ?_
     case y5_72=>(intro u a;go_simp;try rfl)
     simp only [Act.put];refine gJ 6 ?v6_73 rfl (by kernel_rfl) (fun _ _ _ h=>h) (by rfl) ?y6_73 trivial ?_
     case y6_73=>(intro u a;go_simp;try rfl)
     simp only [Act.put];refine iu (i:=1) rfl (by kernel_rfl) (by kernel_rfl) (by rfl) ?_;intro t d;have l:=ij d;clear d;go_simp;refine o.out.mono ?_;rintro e w6 ⟨rfl,f⟩;have p:=ij f;clear f;refine l.out _ _ trivial ?_;clear l;try simp only [Act.put,List.setIfInBounds_toArray]
     refine gJ 7 ?v7_74 rfl (by kernel_rfl) (fun _ _ _ h=>h) (by rfl) ?y7_74 trivial ?_
     case y7_74=>(intro u a;go_simp;try rfl)
     simp only [Act.put];refine iH rfl (by kernel_rfl) (by kernel_rfl) (by rfl) ?_;go_simp;refine(jK _).mono ?_;rintro e D ⟨rfl,rfl⟩;exact⟨rfl,Or.inl ⟨m.out,rfl,p.out.base⟩⟩
   ·have E:Hid ((byt s).drop c=[]):=List.drop_eq_nil_iff.2 (by rw [iS];omega);have o:=ij (nG W z.drew b c s (A.out.grown (iy (ir _ _))) B q);have m:Hid (i6 (leB 4 C) ((byt s).drop k)=none):=by
     unfold Hid;rw [<-r.out,E.out,HX.out,i6]
    go_wp2_with fail
    refine iz (fun _=>True) 8 (by kernel_rfl) (by kernel_rfl) trivial ?_;intro v;refine gJ 0 ?v0_75 rfl (by kernel_rfl) (fun _ _ _ h=>h) (by rfl) ?y0_75 trivial ?_
    case y0_75=>(intro u a;go_simp;try rfl)
    simp only [Act.put,List.setIfInBounds_toArray];refine gJ 2 ?v2_76 rfl (by kernel_rfl) (fun _ _ _ h=>h) (by rfl) ?y2_76 trivial ?_
    case y2_76=>(intro u a;go_simp;try rfl)
    simp only [Act.put];refine gJ 3 ?v3_77 rfl (by kernel_rfl) (fun _ _ _ h=>h) (by rfl) ?y3_77 trivial ?_
    case y3_77=>(intro u a;go_simp;try rfl)
    simp only [Act.put];refine gJ 4 ?v4_78 rfl (by kernel_rfl) (fun _ _ _ h=>h) (by rfl) ?y4_78 trivial ?_
    case y4_78=>(intro u a;go_simp;try rfl)
    simp only [Act.put];refine gJ 5 ?v5_79 rfl (by kernel_rfl) (fun _ _ _ h=>h) (by rfl) ?y5_79 trivial ?_
    case y5_79=>(intro u a;go_simp;try rfl)
    simp only [Act.put];refine gJ 6 ?v6_80 rfl (by kernel_rfl) (fun _ _ _ h=>h) (by rfl) ?y6_80 trivial ?_
    case y6_80=>(intro u a;go_simp;try rfl)
    simp only [Act.put];refine iu (i:=1) rfl (by kernel_rfl) (by kernel_rfl) (by rfl) ?_;intro t d;have l:=ij d;clear d;go_simp;refine o.out.mono ?_;rintro e w6 ⟨rfl,f⟩;exact⟨rfl,Or.inl ⟨m.out,rfl,f⟩⟩
  ·have m:Hid (i6 (leB 4 C) ((byt s).drop k)=some ((),(byt s).drop c)):=by
    unfold Hid;rw [<-r.out];rfl
   go_wp2_with fail
   go_end0
   exact Or.inr ⟨(),_,_,c,m.out,rfl,trivial,A.out,rfl⟩
def inB(x lo hi:Int):Bool:=decide (lo<=x) && decide (x<=hi)
theorem qB(x b a:Int)(w:World):Calls Tryz.prog 132 #[.int .i64 x,.int .i64 b,.int .i64 a] w fun e w'=>e= .returned (.bool (inB x b a))/\w'=w:=by
 by_cases c:b<=x
 ·by_cases d:x<=a
  ·have HB:Hid (inB x b a=true):=by unfold Hid inB;simp [c,d]
   go_enter Tryz.func132,Tryz.ntmps132
   go_wp2_with fail
   go_ret;exact⟨by first | rfl | (rw [HB.out];rfl),rfl⟩
  ·have HB:Hid (inB x b a=false):=by unfold Hid inB;simp [d]
   have f:decide (x<=a)=false:=by simp;omega
   go_enter Tryz.func132,Tryz.ntmps132
   go_wp2_with fail
   go_ret;exact⟨by first | rfl | (rw [HB.out];rfl),rfl⟩
 ·have HB:Hid (inB x b a=false):=by unfold Hid inB;simp [c]
  have f:decide (b<=x)=false:=by simp;omega
  go_enter Tryz.func132,Tryz.ntmps132
  go_wp2_with fail
  go_ret;exact⟨by first | rfl | (rw [HB.out];rfl),rfl⟩
theorem p9(a b c:Int):kG (a,b,c)=(inB a 1 5 && inB b 0 3 && inB c 0 500):=rfl
theorem tA(v:Int × Int × Int)(w:World):Calls Tryz.prog 91 #[EV v] w fun e w'=>e= .returned (.bool (kG v))/\w.grownBy w' none:=by
 obtain⟨a,b,c⟩:=v;unfold EV;cases h1:inB a 1 5 with
 | false=>
  have d:Hid (kG (a,b,c)=false):=by unfold Hid;rw [p9];simp only [h1];rfl
  go_enter Tryz.func91,Tryz.ntmps91
  go_wp2_with (go_at_call 132;refine(qB _ _ _ _).mono ?_;rintro e f ⟨rfl,rfl⟩)
  go_ret;exact⟨by rw [d.out];rfl,iq (ir _ _)⟩
 | true=>
  cases h2:inB b 0 3 with
  | false=>
   have d:Hid (kG (a,b,c)=false):=by unfold Hid;rw [p9];simp only [h1,h2];rfl
   go_enter Tryz.func91,Tryz.ntmps91
   go_wp2_with (go_at_call 132;refine(qB _ _ _ _).mono ?_;rintro e f ⟨rfl,rfl⟩)
   go_ret;exact⟨by rw [d.out];rfl,iq (ir _ _)⟩
  | true=>
   cases h3:inB c 0 500 with
   | false=>
    have d:Hid (kG (a,b,c)=false):=by unfold Hid;rw [p9];simp only [h1,h2,h3];rfl
    go_enter Tryz.func91,Tryz.ntmps91
    go_wp2_with (go_at_call 132;refine(qB _ _ _ _).mono ?_;rintro e f ⟨rfl,rfl⟩)
    go_ret;exact⟨by rw [d.out];rfl,iq (ir _ _)⟩
   | true=>
    have d:Hid (kG (a,b,c)=true):=by unfold Hid;rw [p9];simp only [h1,h2,h3];rfl
    go_enter Tryz.func91,Tryz.ntmps91
    go_wp2_with (go_at_call 132;refine(qB _ _ _ _).mono ?_;rintro e f ⟨rfl,rfl⟩)
    go_ret;exact⟨by rw [d.out];rfl,iq (ir _ _)⟩
def pK(tv sv:Value)(v:Int × Int × Int):Value:= .agg #[tv,sv,.int .i64 v.1,.int .i64 v.2.1,.int .i64 v.2.2]
theorem tk(a:Art)(tv sv:Value)(w:World)(I:ShpAt w)(t:ProgAt w (.agg #[tv]) a.prog)(q:IntsAt w.heap.size w sv a.sch):
  Calls Tryz.prog 63 #[pK tv sv a.ver] w fun e w'=>e= .returned (.int .i64 (jI a))/\w.grownBy w' none:=by
 obtain⟨p,l,v⟩:=a;obtain⟨d,c,b⟩:=v;simp only at t q ⊢;have L:=ij t;have M:=ij q;obtain⟨m,k,G⟩:=t.form;simp only [Value.agg.injEq,Array.mk.injEq,List.cons.injEq,and_true]at G;subst G;obtain⟨i,h,rfl⟩:=q.form;have N:=ij I;clear t q I;unfold pK;simp only;have u:w.grownBy (w.alloc (.cells #[.slice m p.length k,.slice i l.length h,.int .i64 d,.int .i64 c,.int .i64 b] 56)) none:=iq (ir _ _);have K:Hid ((w.alloc (.cells #[.slice m p.length k,.slice i l.length h,.int .i64 d,.int .i64 c,.int .i64 b] 56)).heap[w.heap.size]?=some (.cells #[.slice m p.length k,.slice i l.length h,.int .i64 d,.int .i64 c,.int .i64 b] 56 (0,0))):=heap_alloc_new _ _;have s:=ij (zN p _ _ (ShpAt.pres N.out (ip u)) (L.out.pres (ip u)));have E:=ij u;clear u;cases hv:iU p with
 | false=>
  have f:Hid (jI ⟨p,l,(d,c,b)⟩=1):=by unfold Hid jI;rw [if_neg (by rw [hv];simp)]
  rw [hv]at s;clear hv;go_enter Tryz.func63,Tryz.ntmps63
  go_wp2_with (go_at_call 51;refine s.out.mono ?_;rintro e x ⟨rfl,o⟩)
  go_ret;exact⟨by rw [f.out];rfl,il E.out o⟩
 | true=>
  rw [hv]at s;have B:=ij hv;clear hv;go_enter Tryz.func63,Tryz.ntmps63
  go_wp2_with fail
  refine s.out.mono ?_;rintro e x ⟨rfl,o⟩;have r:=ij (il E.out o);have C:x.heap[w.heap.size]?=some (.cells #[.slice m p.length k,.slice i l.length h,.int .i64 d,.int .i64 c,.int .i64 b] 56 (0,0)):=by
   rw [o.block _ (by simp) (by simp)];exact K.out
  have k1:x.cell? ⟨w.heap.size,1,none⟩=some (.slice i l.length h):=by simp [World.cell?,C]
  have y:=ij (zK l (.slice i l.length h) x ((M.out.pres (ip r.out)).mono r.out.size));have H:=ij C;clear o C;cases hv2:jc l with
  | false=>
   have f:Hid (jI ⟨p,l,(d,c,b)⟩=2):=by unfold Hid jI;rw [if_pos B.out,if_neg (by rw [hv2];simp)]
   rw [hv2]at y;clear hv2;go_wp2_with (go_at_call 76;refine y.out.mono ?_;rintro e j ⟨rfl,n⟩)
   go_ret;exact⟨by rw [f.out];rfl,il r.out n⟩
  | true=>
   rw [hv2]at y;have J:=ij hv2;clear hv2;go_wp2_with fail
   refine y.out.mono ?_;rintro e j ⟨rfl,n⟩;have F:=ij (il r.out n);have A:j.heap[w.heap.size]?=some (.cells #[.slice m p.length k,.slice i l.length h,.int .i64 d,.int .i64 c,.int .i64 b] 56 (0,0)):=by
    rw [n.block _ (Array.getElem?_eq_some_iff.1 H.out).1 (by simp)];exact H.out
   have k2:j.cell? ⟨w.heap.size,2,none⟩=some (.int .i64 d):=by simp [World.cell?,A]
   have k3:j.cell? ⟨w.heap.size,3,none⟩=some (.int .i64 c):=by simp [World.cell?,A]
   have k4:j.cell? ⟨w.heap.size,4,none⟩=some (.int .i64 b):=by simp [World.cell?,A]
   have z:=ij (tA (d,c,b) j);clear n A k1;cases hv3:kG (d,c,b)with
   | false=>
    have f:Hid (jI ⟨p,l,(d,c,b)⟩=2):=by unfold Hid jI;rw [if_pos B.out,if_neg (by rw [hv3];simp)]
    rw [hv3]at z;clear hv3;go_wp2_with (go_at_call 91;refine z.out.mono ?_;rintro e O ⟨rfl,D⟩)
    go_ret;exact⟨by rw [f.out];rfl,il F.out D⟩
   | true=>
    have f:Hid (jI ⟨p,l,(d,c,b)⟩=0):=by unfold Hid jI;rw [if_pos B.out,if_pos ⟨J.out,hv3⟩]
    rw [hv3]at z;clear hv3;go_wp2_with (go_at_call 91;refine z.out.mono ?_;rintro e O ⟨rfl,D⟩)
    go_ret;exact⟨by rw [f.out];rfl,il F.out D⟩
theorem ThrAt.low{L a B:Nat}{w:World}{tv:Value}{p:List (List Ins)}(h:ThrAt L B w tv p)(b:a<=L):ThrAt a B w tv p:=by
 obtain⟨rows,c,d,i,e⟩:=h;refine⟨rows,iQ c b,d,fun j hj=>?_,e⟩;obtain⟨rv,f,l,k⟩:=i j hj;exact⟨rv,f,iQ l b,k⟩
def Dl(l:List Nat)(a:Art)(r3:List Nat):Option Art:=if r3=leB 4 (lz (l.take (l.length - r3.length)))/\jI a=0 then some a else none
def Cx(l:List Nat)(p:List (List Ins))(s:List Int)(r:List Nat):Option Art:=match mY r with
 | none=>none
 | some (v,r3)=>Dl l ⟨p,s,v⟩ r3
def CV(l:List Nat)(p:List (List Ins))(r:List Nat):Option Art:=match jU r with
 | none=>none
 | some (s,r2)=>Cx l p s r2
def CT(l:List Nat)(r:List Nat):Option Art:=match kN r with
 | none=>none
 | some (p,r1)=>CV l p r1
theorem Bd{l a:List Nat}(h:i6 [82,82,1] l=some ((),a)):ki l=CT l a:=by
 have e:=(sI _ _ _).1 h;have d:l=82::82::1::a:=e;have f:oH l=match kN a with
  | none=>none
  | some (p,c)=>match jU c with
   | none=>none
   | some (s,b)=>match mY b with
    | none=>none
    | some (v,r3)=>some (⟨p,s,v⟩,r3):=by rw [d];rfl
 unfold ki;rw [f];unfold CT CV Cx Dl;cases kN a with
 | none=>rfl
 | some x=>
  obtain⟨p,c⟩:=x;simp only;cases jU c with
  | none=>rfl
  | some x=>
   obtain⟨s,b⟩:=x;simp only;cases mY b with
   | none=>rfl
   | some x=>rfl
theorem xe{l:List Nat}{k:Nat}(hk:k<=l.length)(a:Art):Dl l a (l.drop k)=if i6 (leB 4 (lz (l.take k))) (l.drop k)=some ((),[])/\jI a=0 then some a else none:=by
 unfold Dl;have e:l.length - (l.drop k).length=k:=by simp;omega
 rw [e];have b:(i6 (leB 4 (lz (l.take k))) (l.drop k)=some ((),[]))=(l.drop k=leB 4 (lz (l.take k))):=by rw [sI,List.append_nil]
 simp only [b]
theorem ShpAt.past{w w':World}{b:Nat}(h:ShpAt w)(hg:w.grownBy w' (some b))(hb:b≠0):ShpAt w':=fun o j h1 h2=>by
 have:=h o j h1 h2;rw [hg.cell_far _ (World.block_lt_of_cell? _ _ this) (by simpa using Ne.symm hb)];exact this
theorem xB{l:List Nat}(h:i6 [82,82,1] l=none):ki l=none:=by
 cases hd:ki l with
 | none=>rfl
 | some a=>
  obtain⟨r,b,_⟩:=A1 hd;obtain⟨c,e⟩:=pC b;have:i6 [82,82,1] l=some ((),c):=(sI _ _ _).2 e;rw [this]at h;cases h
structure ArS(W w:World)(b:Nat)(s:ByteArray)(k c d L:Nat)(tv sv:Value)(p:List (List Ins))(l:List Int)(v:Int × Int × Int)(us:Array Value):Prop where
 ins:InS W w b s k 56 c d #[tv,sv,.int .i64 v.1,.int .i64 v.2.1,.int .i64 v.2.2] us
 thr:ThrAt L w.heap.size w tv p
 own:w.ownsRow L 3 1 sv l.length (iL l)
 lb:b<L
 lc:c<L
 ld:d<L
theorem ArS.call{W w w':World}{b k k' c d L:Nat}{s:ByteArray}{tv sv:Value}{p:List (List Ins)}{l:List Int}{v:Int × Int × Int}{us:Array Value}(h:ArS W w b s k c d L tv sv p l v us)(h':RdS w w' b s k'):ArS W w' b s k' c d L tv sv p l v us:=
 ⟨h.ins.call h',(h.thr.step h'.base (fun q e=>by simp only [Option.some.injEq]at e;have:=h.lb;omega)).mono h'.base.size,uJ h.own h'.base h.lb,h.lb,h.lc,h.ld⟩
theorem je{w:World}{base:Nat}{e:TypeId}{size:Nat}{v:Value}{n:Nat}{xs:List Value}{g o:Nat}{u:Value}(h:w.ownsRow base e size v n xs)(hg:g<base):(w.setCell ⟨g,o,none⟩ u).ownsRow base e size v n xs:=
 iD h (iV (w:=w) (b:=g) (o:=o) (v:=u)) (fun k e=>by simp only [Option.some.injEq]at e;omega)
theorem jl{L:Nat}{w:World}{tv:Value}{p:List (List Ins)}{g o:Nat}{u:Value}(h:ThrAt L w.heap.size w tv p)(hg:g<L):ThrAt L (w.setCell ⟨g,o,none⟩ u).heap.size (w.setCell ⟨g,o,none⟩ u) tv p:=
 (h.step (iV (w:=w) (b:=g) (o:=o) (v:=u)) (fun q e=>by simp only [Option.some.injEq]at e;omega)).mono (by simp)
theorem ArS.setS{W w:World}{b k c d L:Nat}{s:ByteArray}{tv sv sv':Value}{p:List (List Ins)}{l l':List Int}{v:Int × Int × Int}{us:Array Value}(h:ArS W w b s k c d L tv sv p l v us)(h':w.ownsRow L 3 1 sv' l'.length (iL l')):ArS W (w.setCell ⟨c,1,none⟩ sv') b s k c d L tv sv' p l' v us:=
 ⟨by simpa using h.ins.set 1 sv',jl h.thr h.lc,je h' h.lc,h.lb,h.lc,h.ld⟩
theorem ArS.setV{W w:World}{b k c d L:Nat}{s:ByteArray}{tv sv:Value}{p:List (List Ins)}{l:List Int}{v:Int × Int × Int}{us:Array Value}(h:ArS W w b s k c d L tv sv p l v us)(x:Int × Int × Int):
  ArS W (((w.setCell ⟨c,2,none⟩ (.int .i64 x.1)).setCell ⟨c,3,none⟩ (.int .i64 x.2.1)).setCell ⟨c,4,none⟩ (.int .i64 x.2.2)) b s k c d L tv sv p l x us:=
 ⟨by simpa using ((h.ins.set 2 (.int .i64 x.1)).set 3 (.int .i64 x.2.1)).set 4 (.int .i64 x.2.2),jl (jl (jl h.thr h.lc) h.lc) h.lc,je (je (je h.own h.lc) h.lc) h.lc,h.lb,h.lc,h.ld⟩
theorem ArS.first{W w:World}{b k c d L:Nat}{s:ByteArray}{tv:Value}{p:List (List Ins)}{us:Array Value}(h:InS W w b s k 56 c d #[.slice none 0 0,.slice none 0 0,.int .i64 0,.int .i64 0,.int .i64 0] us)(ht:ThrAt L w.heap.size w tv p)(hb:b<L)(hc:c<L)(hd:d<L):
  ArS W (w.setCell ⟨c,0,none⟩ tv) b s k c d L tv (.slice none 0 0) p [] (0,0,0) us:=
 ⟨by simpa using h.set 0 tv,jl ht hc,⟨rfl,Or.inl ⟨rfl,rfl⟩⟩,hb,hc,hd⟩
theorem ArS.out{W w:World}{b k c d L:Nat}{s:ByteArray}{tv sv:Value}{p:List (List Ins)}{l:List Int}{v:Int × Int × Int}{a:Array Value}(h:ArS W w b s k c d L tv sv p l v a)(e:a.size=5):
  ArS W (((((w.setCell ⟨d,0,none⟩ tv).setCell ⟨d,1,none⟩ sv).setCell ⟨d,2,none⟩ (.int .i64 v.1)).setCell ⟨d,3,none⟩ (.int .i64 v.2.1)).setCell ⟨d,4,none⟩ (.int .i64 v.2.2)) b s k c d L tv sv p l v #[tv,sv,.int .i64 v.1,.int .i64 v.2.1,.int .i64 v.2.2]:=by
 obtain⟨a⟩:=a;match a,e with
 | [a0,a1,a2,a3,a4],_=>
  exact⟨by simpa using ((((h.ins.rset 0 tv).rset 1 sv).rset 2 (.int .i64 v.1)).rset 3 (.int .i64 v.2.1)).rset 4 (.int .i64 v.2.2),
   jl (jl (jl (jl (jl h.thr h.ld) h.ld) h.ld) h.ld) h.ld,je (je (je (je (je h.own h.ld) h.ld) h.ld) h.ld) h.ld,h.lb,h.lc,h.ld⟩
def F8(W:World)(b L:Nat)(s:ByteArray)(e:Ending)(w':World):Prop:=
 (ki (byt s)=none/\sf e/\W.grownBy w' (some b))\/
 ∃ a tv sv,ki (byt s)=some a/\e= .returned (pK tv sv a.ver)/\ThrAt L w'.heap.size w' tv a.prog/\w'.ownsRow L 3 1 sv a.sch.length (iL a.sch)/\W.grownBy w' (some b)
theorem yM(w:World)(b:Nat)(s:ByteArray)(aq:ShpAt w)(aM:b≠0)(h:RdS w w b s 0)(L:s.size<=9223372036854775806):
  Calls Tryz.prog 97 #[pt b] w (F8 w b (w.heap.size+2) s):=by
 have HH:=ij h;have aU:=ij aq;have hbw:=h.lt;have aV:pt b= .pointer (some ⟨b,0,none⟩):=rfl;rw [aV]at*;clear h aq;go_enter Tryz.func97,Tryz.ntmps97
 go_wp2_with fail
 have G:=InS.start (T:=56) HH.out #[.slice none 0 0,.slice none 0 0,.int .i64 0,.int .i64 0,.int .i64 0] #[.slice none 0 0,.slice none 0 0,.int .i64 0,.int .i64 0,.int .i64 0];generalize ai:(w.alloc (.cells #[.slice none 0 0,.slice none 0 0,.int .i64 0,.int .i64 0,.int .i64 0] 56)).alloc (.cells #[.slice none 0 0,.slice none 0 0,.int .i64 0,.int .i64 0,.int .i64 0] 56)=w1 at G ⊢;have aN:w.heap.size+2<=w1.heap.size:=by rw [<-ai];simp
 clear ai;refine(FV w1 w1 b 0 s G.rd.self L).mono ?_;rintro e V (⟨a,rfl,i⟩ | ⟨_,F,v,k1,a,rfl,_,d,rfl⟩)
 ·have f:Hid (ki (byt s)=none):=xB a;have m:=ij (il G.rd.base i);clear a i G;go_wp2_with fail
  exact⟨rfl,Or.inl ⟨f.out,rfl,m.out⟩⟩
 have ad:Hid (ki (byt s)=CT (byt s) ((byt s).drop k1)):=Bd a;have I1:=G.call d;have hz2:w.heap.size+2<=V.heap.size:=Nat.le_trans aN d.base.size;have P:=ij I1;clear G d a I1;go_wp2_with fail
 refine(AF V V b k1 s P.out.rd.self L).mono ?_;rintro e Q (⟨a,rfl,i⟩ | ⟨p,F,v,k2,a,rfl,H,d,rfl⟩)
 ·have f:Hid (ki (byt s)=none):=by unfold Hid;rw [ad.out,CT,a]
  have m:=ij (il P.out.rd.base i);clear a i;go_wp2_with fail
  exact⟨rfl,Or.inl ⟨f.out,rfl,m.out⟩⟩
 have ag:Hid (ki (byt s)=CV (byt s) p ((byt s).drop k2)):=by unfold Hid;rw [ad.out,CT,a]
 obtain⟨hp4,tv,rfl,X⟩:=H;obtain⟨y,r,u,rfl⟩:=iw X.choose_spec.1;have ap:Hid (ThrAt (w.heap.size+2) Q.heap.size Q (.slice y r u) p):=X.low (by omega);have O:=P.out.call d;have an:=ij O;have c3:Q.cell? ⟨w.heap.size+1,0,none⟩=some (.slice none 0 0):=by simpa using O.cell 0
 have f3:=O.free 0;clear X d a O;go_wp2_with fail
 have q:=ArS.first an.out ap.out (by omega) (by omega) (by omega);clear c3 f3 an ap P;generalize Q.setCell ⟨w.heap.size+1,0,none⟩ (.slice y r u)=w4 at q ⊢;have aR:w.heap.size+2<=w4.heap.size:=by
  have:=q.ins.rd.base.size;have h5:=(Array.getElem?_eq_some_iff.1 q.ins.var).1;omega
 refine(yd w4 w4 b k2 s q.ins.rd.self L).mono ?_;rintro e S (⟨a,rfl,i⟩ | ⟨l,F,sv,k3,a,rfl,H,d,rfl⟩)
 ·have f:Hid (ki (byt s)=none):=by unfold Hid;rw [ag.out,CV,a]
  have m:=ij (il q.ins.rd.base i);clear a i q;go_wp2_with fail
  exact⟨rfl,Or.inl ⟨f.out,rfl,m.out⟩⟩
 have al:Hid (ki (byt s)=Cx (byt s) p l ((byt s).drop k3)):=by unfold Hid;rw [ag.out,CV,a]
 obtain⟨z,o,t,rfl⟩:=iw H.2;have ah:Hid (S.ownsRow (w.heap.size+2) 3 1 (.slice z o t) l.length (iL l)):=iQ H.2 aR;have N:=ij (q.call d);have c5:S.cell? ⟨w.heap.size+1,1,none⟩=some (.slice none 0 0):=by simpa using N.out.ins.cell 1
 have f5:=N.out.ins.free 1;clear H d a q;go_wp2_with fail
 have C:=N.out.setS ah.out;clear c5 f5 N ah;generalize S.setCell ⟨w.heap.size+1,1,none⟩ (.slice z o t)=w6 at C ⊢;refine(FX w6 w6 b k3 s C.ins.rd.self L).mono ?_;rintro e K (⟨a,rfl,i⟩ | ⟨x,F,v7,k4,a,rfl,rfl,d,rfl⟩)
 ·have f:Hid (ki (byt s)=none):=by unfold Hid;rw [al.out,Cx,a]
  have m:=ij (il C.ins.rd.base i);clear a i C;go_wp2_with fail
  exact⟨rfl,Or.inl ⟨f.out,rfl,m.out⟩⟩
 have ar:Hid (ki (byt s)=Dl (byt s) ⟨p,l,x⟩ ((byt s).drop k4)):=by unfold Hid;rw [al.out,Cx,a]
 have A:=ij (C.call d);obtain⟨x1,x2,x3⟩:=x;have c7:K.cell? ⟨w.heap.size+1,2,none⟩=some (.int .i64 0):=by simpa using A.out.ins.cell 2
 have c8:K.cell? ⟨w.heap.size+1,3,none⟩=some (.int .i64 0):=by simpa using A.out.ins.cell 3
 have c9:K.cell? ⟨w.heap.size+1,4,none⟩=some (.int .i64 0):=by simpa using A.out.ins.cell 4
 have f7:=A.out.ins.free 2;have f8:=A.out.ins.free 3;have f9:=A.out.ins.free 4;clear d a C;unfold EV;go_wp2_with fail
 have n:=A.out.setV (x1,x2,x3);simp only at n;clear c7 c8 c9 f7 f8 f9 A;generalize ((K.setCell ⟨w.heap.size+1,2,none⟩ (.int .i64 x1)).setCell ⟨w.heap.size+1,3,none⟩ (.int .i64 x2)).setCell ⟨w.heap.size+1,4,none⟩ (.int .i64 x3)=w8 at n ⊢;refine(DZ w8 w8 b k4 s n.ins.rd.self L).mono ?_;rintro e B (⟨a,rfl,i⟩ | ⟨_,F,v9,I,a,rfl,_,d,rfl⟩)
 ·have f:Hid (ki (byt s)=none):=by
   unfold Hid;rw [ar.out,xe (by rw [iS];exact n.ins.rd.le),if_neg (by rw [a];simp)]
  have m:=ij (il n.ins.rd.base i);clear a i n;go_wp2_with fail
  exact⟨rfl,Or.inl ⟨f.out,rfl,m.out⟩⟩
 have W:Hid (ki (byt s)=if (byt s).drop I=[]/\jI ⟨p,l,(x1,x2,x3)⟩=0 then some ⟨p,l,(x1,x2,x3)⟩ else none):=by
  unfold Hid;rw [ar.out,xe (by rw [iS];exact n.ins.rd.le),a]
  simp
 have j:=ij (n.call d);have c0:=j.out.ins.rd.c0;have c1:=j.out.ins.rd.c1;have hk5:=j.out.ins.rd.le;clear d n a;by_cases ae:¬I=s.size
 ·have qe:((I:Int)==(s.size:Int))=false:=by simp;omega
  have f:Hid (ki (byt s)=none):=by
   unfold Hid;rw [W.out,if_neg]
   intro h;have:=List.drop_eq_nil_iff.1 h.1;rw [iS]at this;omega
  clear ae;go_wp2_with fail
  go_still_tail 10,(by kernel_rfl)
  go_wp2_with (go_at_call 141;refine(jK _).mono ?_;rintro e K ⟨rfl,rfl⟩)
  exact⟨rfl,Or.inl ⟨f.out,rfl,iy j.out.ins.rd.base⟩⟩
 have qe:((I:Int)==(s.size:Int))=true:=by simp;omega
 have R:Hid (ki (byt s)=if jI ⟨p,l,(x1,x2,x3)⟩=0 then some ⟨p,l,(x1,x2,x3)⟩ else none):=by
  have e:(byt s).drop I=[]:=List.drop_eq_nil_iff.2 (by rw [iS];omega);unfold Hid;rw [W.out,e];simp
 have D:=ij (j.out.call (j.out.ins.rd.self.grown (iy (ir _ _))));have d0:B.cell? ⟨w.heap.size+1,0,none⟩=some (.slice y r u):=by simpa using j.out.ins.cell 0
 have Z:B.cell? ⟨w.heap.size+1,1,none⟩=some (.slice z o t):=by simpa using j.out.ins.cell 1
 have U:B.cell? ⟨w.heap.size+1,2,none⟩=some (.int .i64 x1):=by simpa using j.out.ins.cell 2
 have d3:B.cell? ⟨w.heap.size+1,3,none⟩=some (.int .i64 x2):=by simpa using j.out.ins.cell 3
 have d4:B.cell? ⟨w.heap.size+1,4,none⟩=some (.int .i64 x3):=by simpa using j.out.ins.cell 4
 clear ae W;have aD:Hid (ShpAt B.drew):=ShpAt.past aU.out D.out.ins.rd.base aM;have M:=ij (tk ⟨p,l,(x1,x2,x3)⟩ (.slice y r u) (.slice z o t) B.drew aD.out D.out.thr.progAt (jy D.out.own));unfold pK at M;simp only at M;go_wp2_with fail
 go_still_tail 10,(by kernel_rfl)
 go_wp2_with (first | (go_at_call 141;refine(j4 _).mono ?_;rintro e w11 ⟨⟨v11,rfl⟩,rfl⟩))
 refine M.out.mono ?_;rintro e k ⟨rfl,ak⟩;have c:=D.out.call (D.out.ins.rd.self.grown ak);have Y:=ij c;clear c0 c1 d0 Z U d3 d4 j D M ak;by_cases E:jI ⟨p,l,(x1,x2,x3)⟩=0
 ·have d0:k.cell? ⟨w.heap.size+1,0,none⟩=some (.slice y r u):=by simpa using c.ins.cell 0
  have Z:k.cell? ⟨w.heap.size+1,1,none⟩=some (.slice z o t):=by simpa using c.ins.cell 1
  have U:k.cell? ⟨w.heap.size+1,2,none⟩=some (.int .i64 x1):=by simpa using c.ins.cell 2
  have d3:k.cell? ⟨w.heap.size+1,3,none⟩=some (.int .i64 x2):=by simpa using c.ins.cell 3
  have d4:k.cell? ⟨w.heap.size+1,4,none⟩=some (.int .i64 x3):=by simpa using c.ins.cell 4
  have r0:k.cell? ⟨w.heap.size,0,none⟩=some (.slice none 0 0):=by simpa using c.ins.rcell 0
  have F:k.cell? ⟨w.heap.size,1,none⟩=some (.slice none 0 0):=by simpa using c.ins.rcell 1
  have r2:k.cell? ⟨w.heap.size,2,none⟩=some (.int .i64 0):=by simpa using c.ins.rcell 2
  have r3:k.cell? ⟨w.heap.size,3,none⟩=some (.int .i64 0):=by simpa using c.ins.rcell 3
  have r4:k.cell? ⟨w.heap.size,4,none⟩=some (.int .i64 0):=by simpa using c.ins.rcell 4
  have g0:=c.ins.rfree 0;have g1:=c.ins.rfree 1;have g2:=c.ins.rfree 2;have g3:=c.ins.rfree 3;have g4:=c.ins.rfree 4;have f:Hid (ki (byt s)=some ⟨p,l,(x1,x2,x3)⟩):=by unfold Hid;rw [R.out,if_pos E]
  rw [E];clear E c R;go_wp2_with (go_at_call 141;refine(j4 _).mono ?_;rintro e aj ⟨⟨v13,rfl⟩,rfl⟩)
  have J:=Y.out.out rfl;simp only at J;clear d0 Z U d3 d4 r0 F r2 r3 r4 g0 g1 g2 g3 g4 Y;generalize hwz:(((((aj.setCell ⟨w.heap.size,0,none⟩ (.slice y r u)).setCell ⟨w.heap.size,1,none⟩ (.slice z o t)).setCell ⟨w.heap.size,2,none⟩ (.int .i64 x1)).setCell ⟨w.heap.size,3,none⟩ (.int .i64 x2)).setCell ⟨w.heap.size,4,none⟩ (.int .i64 x3))=wz at J ⊢;have e0:wz.cell? ⟨w.heap.size,0,none⟩=some (.slice y r u):=by simpa using J.ins.rcell 0
  have e1:wz.cell? ⟨w.heap.size,1,none⟩=some (.slice z o t):=by simpa using J.ins.rcell 1
  have e2:wz.cell? ⟨w.heap.size,2,none⟩=some (.int .i64 x1):=by simpa using J.ins.rcell 2
  have e3:wz.cell? ⟨w.heap.size,3,none⟩=some (.int .i64 x2):=by simpa using J.ins.rcell 3
  have e4:wz.cell? ⟨w.heap.size,4,none⟩=some (.int .i64 x3):=by simpa using J.ins.rcell 4
  refine bodyPost_ret (v:= .agg #[.slice y r u,.slice z o t,.int .i64 x1,.int .i64 x2,.int .i64 x3]) ?_ rfl ?_
  ·simp [results,Tryz.results97,go_sem,e0,e1,e2,e3,e4]
  ·exact Or.inr ⟨⟨p,l,(x1,x2,x3)⟩,_,_,f.out,rfl,J.thr,J.own,J.ins.rd.base⟩
 ·have qn:(jI ⟨p,l,(x1,x2,x3)⟩==0)=false:=by simpa using E
  have f:Hid (ki (byt s)=none):=by unfold Hid;rw [R.out,if_neg E]
  clear E c R;generalize jI ⟨p,l,(x1,x2,x3)⟩=ee at*;go_wp2_with (go_at_call 141;refine(jK _).mono ?_;rintro e aj ⟨rfl,rfl⟩)
  exact⟨rfl,Or.inl ⟨f.out,rfl,Y.out.ins.rd.base⟩⟩
theorem yE(b a:Addr)(w:World):
  CallsD Tryz.prog 96 #[.pointer (some b),.pointer (some a)] .returning w fun e u' w'=>e= .returned (.tuple #[])/\u'= .returning/\w'=w:=by
 refine callsD_of_wpS Tryz.func96 rfl fun c₀ cs hu=>?_
 apply wpS_seq;apply wpS_region;simp [wpOpsS,go_sem,recoverD,hu,Tryz.ntmps96,Exit.thenS];refine wpS_of_wp ?_;have d:Array.replicate 11 undef=#[undef,undef,undef,undef,undef,undef,undef,undef,undef,undef,undef]:=rfl;simp only [d,List.append_toArray,List.setIfInBounds_toArray,List.set_cons_succ,List.set_cons_zero,List.cons_append,List.nil_append];go_wp2_with fail
 cases c₀
 simp_all [bodyPostS,results,Tryz.results96]
theorem tZ(a d:Nat)(h:List PanicEntry)(i k l n o m:Value)(w:World)(b:w.heap[a]?=some (.cells #[i,k,l,n,o] 56 (0,0)))(f:w.heap[d]?=some (.cells #[m] 32 (0,0)))(j:a≠d):
  CallsD Tryz.prog 96 #[pt a,pt d] (.panicking ({ v:= .iface 174 (.int .i64 3),recovered:=false}::h)) w fun e u' w'=>e= .returned (.tuple #[])/\u'= .panicking ({ v:= .iface 174 (.int .i64 3),recovered:=true}::h)/\
   w'=((((((w.setCell ⟨a,0,none⟩ (.slice none 0 0)).setCell ⟨a,1,none⟩ (.slice none 0 0)).setCell ⟨a,2,none⟩ (.int .i64 0)).setCell ⟨a,3,none⟩ (.int .i64 0)).setCell ⟨a,4,none⟩ (.int .i64 0)).setCell ⟨d,0,none⟩ (.int .i64 3)):=by
 unfold pt;refine callsD_of_wpS Tryz.func96 rfl fun c₀ cs hu=>?_
 apply wpS_seq;apply wpS_region;simp [wpOpsS,go_sem,recoverD,hu,Tryz.ntmps96,Exit.thenS];refine wpS_of_wp ?_;have p:Array.replicate 11 undef=#[undef,undef,undef,undef,undef,undef,undef,undef,undef,undef,undef]:=rfl;simp only [p,List.append_toArray,List.setIfInBounds_toArray,List.set_cons_succ,List.set_cons_zero,List.cons_append,List.nil_append];have d0:w.cell? ⟨a,0,none⟩=some i:=by simp [World.cell?,b]
 have d1:w.cell? ⟨a,1,none⟩=some k:=by simp [World.cell?,b]
 have d2:w.cell? ⟨a,2,none⟩=some l:=by simp [World.cell?,b]
 have d3:w.cell? ⟨a,3,none⟩=some n:=by simp [World.cell?,b]
 have d4:w.cell? ⟨a,4,none⟩=some o:=by simp [World.cell?,b]
 have d5:w.cell? ⟨d,0,none⟩=some m:=by simp [World.cell?,f]
 have z0:w.frozen? ⟨a,0,none⟩=false:=by simp [World.frozen?,b]
 have z1:w.frozen? ⟨a,1,none⟩=false:=by simp [World.frozen?,b]
 have z2:w.frozen? ⟨a,2,none⟩=false:=by simp [World.frozen?,b]
 have z3:w.frozen? ⟨a,3,none⟩=false:=by simp [World.frozen?,b]
 have z4:w.frozen? ⟨a,4,none⟩=false:=by simp [World.frozen?,b]
 have z5:w.frozen? ⟨d,0,none⟩=false:=by simp [World.frozen?,f]
 have hba:¬d=a:=fun e=>j e.symm
 have hab':¬a=d:=j;clear b f;have hta:∀ w:World,(Instr.typeAssert (.iface 174 (.int .i64 3)) 20 174 true).run Tryz.prog w= .ok (.tuple #[.int .i64 3,.bool true]) w:=fun _=>by kernel_rfl
 go_wp2_with fail
 simp [bodyPostS,results,Tryz.results96]
def DecS(w:World)(L:Nat)(s:ByteArray)(e:Ending)(w':World):Prop:=w.grownBy w' none/\
 ((ki (byt s)=none/\e= .returned (.tuple #[pK (.slice none 0 0) (.slice none 0 0) (0,0,0),.int .i64 3]))\/
 ∃ a tv sv,ki (byt s)=some a/\e= .returned (.tuple #[pK tv sv a.ver,.int .i64 0])/\ThrAt L w'.heap.size w' tv a.prog/\w'.ownsRow L 3 1 sv a.sch.length (iL a.sch))
theorem zt(w:World)(a b:Nat)(s t u y z p:Value)(B:w.heap[a]?=some (.cells #[s,t,u,y,z] 56 (0,0)))(A:w.heap[b]?=some (.cells #[p] 32 (0,0)))(j:a≠b)(f d c e h l:Value):
  let w':=(((((w.setCell ⟨a,0,none⟩ f).setCell ⟨a,1,none⟩ d).setCell ⟨a,2,none⟩ c).setCell ⟨a,3,none⟩ e).setCell ⟨a,4,none⟩ h).setCell ⟨b,0,none⟩ l
  w'.cell? ⟨a,0,none⟩=some f/\w'.cell? ⟨a,1,none⟩=some d/\w'.cell? ⟨a,2,none⟩=some c/\w'.cell? ⟨a,3,none⟩=some e/\w'.cell? ⟨a,4,none⟩=some h/\w'.cell? ⟨b,0,none⟩=some l/\
   (w'.os=w.os/\w'.tape=w.tape/\w'.output=w.output/\w'.heap.size=w.heap.size/\∀ k,k≠a->k≠b->w'.heap[k]?=w.heap[k]?):=by
 have i:=heap_setCell_same w a 0 _ _ f B;have m:=heap_setCell_same _ a 1 _ _ d i;have q:=heap_setCell_same _ a 2 _ _ c m;have x:=heap_setCell_same _ a 3 _ _ e q;have v:=heap_setCell_same _ a 4 _ _ h x;have C:((((((w.setCell ⟨a,0,none⟩ f).setCell ⟨a,1,none⟩ d).setCell ⟨a,2,none⟩ c).setCell ⟨a,3,none⟩ e).setCell ⟨a,4,none⟩ h)).heap[b]?=some (.cells #[p] 32 (0,0)):=by
  rw [heap_setCell_other _ _ _ _ (Ne.symm j),heap_setCell_other _ _ _ _ (Ne.symm j),heap_setCell_other _ _ _ _ (Ne.symm j),heap_setCell_other _ _ _ _ (Ne.symm j),heap_setCell_other _ _ _ _ (Ne.symm j)];exact A
 have r:=heap_setCell_same _ b 0 _ _ l C;have g6:(((((((w.setCell ⟨a,0,none⟩ f).setCell ⟨a,1,none⟩ d).setCell ⟨a,2,none⟩ c).setCell ⟨a,3,none⟩ e).setCell ⟨a,4,none⟩ h)).setCell ⟨b,0,none⟩ l).heap[a]?=some (.cells #[f,d,c,e,h] 56 (0,0)):=by
  rw [heap_setCell_other _ _ _ _ j];exact v
 refine⟨?_,?_,?_,?_,?_,?_,?_⟩
 ·simp [World.cell?,g6]
 ·simp [World.cell?,g6]
 ·simp [World.cell?,g6]
 ·simp [World.cell?,g6]
 ·simp [World.cell?,g6]
 ·simp [World.cell?,r]
 ·have o:w.grownBy (((((w.setCell ⟨a,0,none⟩ f).setCell ⟨a,1,none⟩ d).setCell ⟨a,2,none⟩ c).setCell ⟨a,3,none⟩ e).setCell ⟨a,4,none⟩ h) (some a):=il (il (il (il iV iV) iV) iV) iV;have n:(((((w.setCell ⟨a,0,none⟩ f).setCell ⟨a,1,none⟩ d).setCell ⟨a,2,none⟩ c).setCell ⟨a,3,none⟩ e).setCell ⟨a,4,none⟩ h).grownBy ((((((w.setCell ⟨a,0,none⟩ f).setCell ⟨a,1,none⟩ d).setCell ⟨a,2,none⟩ c).setCell ⟨a,3,none⟩ e).setCell ⟨a,4,none⟩ h).setCell ⟨b,0,none⟩ l) (some b):=iV;refine⟨n.os.trans o.os,n.tape.trans o.tape,n.output.trans o.output,by simp,fun k i m=>?_⟩;rw [heap_setCell_other _ _ _ _ m,heap_setCell_other _ _ _ _ i,heap_setCell_other _ _ _ _ i,heap_setCell_other _ _ _ _ i,heap_setCell_other _ _ _ _ i,heap_setCell_other _ _ _ _ i]
theorem um{w w3 w4 wz:World}{b ba be:Nat}(h:w.grownBy w3 none)(h':w3.grownBy w4 (some b))(hz:wz.os=w4.os/\wz.tape=w4.tape/\wz.output=w4.output/\wz.heap.size=w4.heap.size/\∀ k,k≠ba->k≠be->wz.heap[k]?=w4.heap[k]?)
  (hb:w.heap.size<=b) (ha:w.heap.size<=ba) (he:w.heap.size<=be):w.grownBy wz none:=
 ⟨hz.1.trans (h'.os.trans h.os),hz.2.1.trans (h'.tape.trans h.tape),hz.2.2.1.trans (h'.output.trans h.output),by rw [hz.2.2.2.1];exact Nat.le_trans h.size h'.size,fun k hk _=>by
  rw [hz.2.2.2.2 k (by omega) (by omega),h'.block k (Nat.lt_of_lt_of_le hk h.size) (fun e=>by simp only [Option.some.injEq]at e;omega)];exact h.block k hk (by simp)⟩
theorem nY{w w3 w4:World}{b:Nat}(h:w.grownBy w3 none)(h':w3.grownBy w4 (some b))(hb:w.heap.size<=b):w.grownBy w4 none:=
 ⟨h'.os.trans h.os,h'.tape.trans h.tape,h'.output.trans h.output,Nat.le_trans h.size h'.size,fun k hk _=>by
  rw [h'.block k (Nat.lt_of_lt_of_le hk h.size) (fun e=>by simp only [Option.some.injEq]at e;omega)];exact h.block k hk (by simp)⟩
theorem FL(s:ByteArray)(w:World)(T:ShpAt w)(X:s.size<=9223372036854775806):
  Calls Tryz.prog 70 #[.string s] w (DecS w (w.heap.size+5) s):=by
 have hmf:∀ (fn:Fn) (first cap:Array Value) (w:World),(Instr.makeFunc fn first cap).run Tryz.prog w= .ok (.func fn first cap) w:=fun _ _ _ _=>rfl
 have aa:=ij T;clear T;go_enter_defers Tryz.func70,Tryz.ntmps70
 go_wp2_with fail
 have q:w.grownBy (((w.alloc (.cells #[.slice none 0 0,.slice none 0 0,.int .i64 0,.int .i64 0,.int .i64 0] 56)).alloc (.cells #[.int .i64 0] 32)).alloc (.cells #[.string s,.int .i64 0] 176)) none:=iq (iq (iq (ir _ _)));have E:(((w.alloc (.cells #[.slice none 0 0,.slice none 0 0,.int .i64 0,.int .i64 0,.int .i64 0] 56)).alloc (.cells #[.int .i64 0] 32)).alloc (.cells #[.string s,.int .i64 0] 176)).heap[w.heap.size]?=some (.cells #[.slice none 0 0,.slice none 0 0,.int .i64 0,.int .i64 0,.int .i64 0] 56 (0,0)):=by
  rw [Below.heap_alloc _ _ _ (by simp;omega),Below.heap_alloc _ _ _ (by simp)];exact heap_alloc_new _ _
 have F:(((w.alloc (.cells #[.slice none 0 0,.slice none 0 0,.int .i64 0,.int .i64 0,.int .i64 0] 56)).alloc (.cells #[.int .i64 0] 32)).alloc (.cells #[.string s,.int .i64 0] 176)).heap[w.heap.size+1]?=some (.cells #[.int .i64 0] 32 (0,0)):=by
  rw [Below.heap_alloc _ _ _ (by simp)];have:=heap_alloc_new (w.alloc (.cells #[.slice none 0 0,.slice none 0 0,.int .i64 0,.int .i64 0,.int .i64 0] 56)) (.cells #[.int .i64 0] 32);simpa using this
 have z:(((w.alloc (.cells #[.slice none 0 0,.slice none 0 0,.int .i64 0,.int .i64 0,.int .i64 0] 56)).alloc (.cells #[.int .i64 0] 32)).alloc (.cells #[.string s,.int .i64 0] 176)).heap[w.heap.size+1+1]?=some (.cells #[.string s,.int .i64 0] 176 (0,0)):=by
  have:=heap_alloc_new ((w.alloc (.cells #[.slice none 0 0,.slice none 0 0,.int .i64 0,.int .i64 0,.int .i64 0] 56)).alloc (.cells #[.int .i64 0] 32)) (.cells #[.string s,.int .i64 0] 176);simpa using this
 have M:(((w.alloc (.cells #[.slice none 0 0,.slice none 0 0,.int .i64 0,.int .i64 0,.int .i64 0] 56)).alloc (.cells #[.int .i64 0] 32)).alloc (.cells #[.string s,.int .i64 0] 176)).heap.size=w.heap.size+3:=by simp
 generalize (((w.alloc (.cells #[.slice none 0 0,.slice none 0 0,.int .i64 0,.int .i64 0,.int .i64 0] 56)).alloc (.cells #[.int .i64 0] 32)).alloc (.cells #[.string s,.int .i64 0] 176))=w3 at q E F z M ⊢;have Z:=ij (yM w3 (w.heap.size+1+1) s (ShpAt.pres aa.out (ip q)) (by omega) ⟨z,ir _ _,Nat.zero_le _⟩ X);have d:Hid (w3.heap.size+2=w.heap.size+5):=by unfold Hid;omega
 have P:=ij q;have V:∀ b,w3.grownBy b (some (w.heap.size+1+1))->b.heap[w.heap.size]?=some (.cells #[.slice none 0 0,.slice none 0 0,.int .i64 0,.int .i64 0,.int .i64 0] 56 (0,0))/\b.heap[w.heap.size+1]?=some (.cells #[.int .i64 0] 32 (0,0)):=fun b h=>
  ⟨by rw [h.block _ (by omega) (by simp only [ne_eq,Option.some.injEq];omega)];exact E,by rw [h.block _ (by omega) (by simp only [ne_eq,Option.some.injEq];omega)];exact F⟩
 have S:=ij V;clear q E F z M V;refine Z.out.mono ?_;rintro e b (⟨j,rfl,h⟩ | ⟨a,tv,sv,j,rfl,L,H,h⟩)
 ·have C:=ij j;obtain⟨c,i⟩:=S.out b h;have D:=ij h;clear j h;go_wp2_with fail
  refine leaves_cons (f:=96) (args:= #[pt w.heap.size,pt (w.heap.size+1)]) (by simp) (by simp [go_sem,pt]) ?_;refine(tZ w.heap.size (w.heap.size+1) [] _ _ _ _ _ _ b c i (by omega)).mono ?_;rintro e u' Y ⟨rfl,rfl,rfl⟩;have J:=zt b w.heap.size (w.heap.size+1) _ _ _ _ _ _ c i (by omega) (.slice none 0 0) (.slice none 0 0) (.int .i64 0) (.int .i64 0) (.int .i64 0) (.int .i64 3);generalize ((((((b.setCell ⟨w.heap.size,0,none⟩ (.slice none 0 0)).setCell ⟨w.heap.size,1,none⟩ (.slice none 0 0)).setCell ⟨w.heap.size,2,none⟩ (.int .i64 0)).setCell ⟨w.heap.size,3,none⟩ (.int .i64 0)).setCell ⟨w.heap.size,4,none⟩ (.int .i64 0)).setCell ⟨w.heap.size+1,0,none⟩ (.int .i64 3))=wz at J ⊢;obtain⟨I,G,y,A,x,K,B⟩:=J;simp [Leaves,settle,results,Tryz.results70,go_sem,I,G,y,A,x,K];refine⟨um P.out D.out B (by omega) (by omega) (by omega),Or.inl ⟨C.out,rfl⟩⟩
 ·have C:=ij j;obtain⟨c,i⟩:=S.out b h;have D:=ij h;obtain⟨t,m,r,rfl⟩:=iw L.choose_spec.1;obtain⟨v,k,n,rfl⟩:=iw H;obtain⟨p,l,x1,x2,x3⟩:=a;have R:=ij L;have W:=ij H;have d0:b.cell? ⟨w.heap.size,0,none⟩=some (.slice none 0 0):=by simp [World.cell?,c]
  have z0:b.frozen? ⟨w.heap.size,0,none⟩=false:=by simp [World.frozen?,c]
  have d1:b.cell? ⟨w.heap.size,1,none⟩=some (.slice none 0 0):=by simp [World.cell?,c]
  have z1:b.frozen? ⟨w.heap.size,1,none⟩=false:=by simp [World.frozen?,c]
  have d2:b.cell? ⟨w.heap.size,2,none⟩=some (.int .i64 0):=by simp [World.cell?,c]
  have z2:b.frozen? ⟨w.heap.size,2,none⟩=false:=by simp [World.frozen?,c]
  have d3:b.cell? ⟨w.heap.size,3,none⟩=some (.int .i64 0):=by simp [World.cell?,c]
  have z3:b.frozen? ⟨w.heap.size,3,none⟩=false:=by simp [World.frozen?,c]
  have d4:b.cell? ⟨w.heap.size,4,none⟩=some (.int .i64 0):=by simp [World.cell?,c]
  have z4:b.frozen? ⟨w.heap.size,4,none⟩=false:=by simp [World.frozen?,c]
  have d5:b.cell? ⟨w.heap.size+1,0,none⟩=some (.int .i64 0):=by simp [World.cell?,i]
  have z5:b.frozen? ⟨w.heap.size+1,0,none⟩=false:=by simp [World.frozen?,i]
  clear j h L H;unfold pK;simp only at R W ⊢;go_wp2_with fail
  refine leaves_cons (f:=96) (args:= #[pt w.heap.size,pt (w.heap.size+1)]) (by simp) (by simp [go_sem,pt]) ?_;refine(yE ⟨w.heap.size,0,none⟩ ⟨w.heap.size+1,0,none⟩ _).mono ?_;rintro e u' Y ⟨rfl,rfl,rfl⟩;have J:=zt b w.heap.size (w.heap.size+1) _ _ _ _ _ _ c i (by omega) (.slice t m r) (.slice v k n) (.int .i64 x1) (.int .i64 x2) (.int .i64 x3) (.int .i64 0);have U:=ij (jl (g:=w.heap.size+1) (o:=0) (u:= .int .i64 0) (jl (g:=w.heap.size) (o:=4) (u:= .int .i64 x3) (jl (g:=w.heap.size) (o:=3) (u:= .int .i64 x2) (jl (g:=w.heap.size) (o:=2) (u:= .int .i64 x1) (jl (g:=w.heap.size) (o:=1) (u:= .slice v k n) (jl (g:=w.heap.size) (o:=0) (u:= .slice t m r) R.out (by have:=d.out;omega)) (by have:=d.out;omega)) (by have:=d.out;omega)) (by have:=d.out;omega)) (by have:=d.out;omega)) (by have:=d.out;omega));have Q:=ij (je (g:=w.heap.size+1) (o:=0) (u:= .int .i64 0) (je (g:=w.heap.size) (o:=4) (u:= .int .i64 x3) (je (g:=w.heap.size) (o:=3) (u:= .int .i64 x2) (je (g:=w.heap.size) (o:=2) (u:= .int .i64 x1) (je (g:=w.heap.size) (o:=1) (u:= .slice v k n) (je (g:=w.heap.size) (o:=0) (u:= .slice t m r) W.out (by have:=d.out;omega)) (by have:=d.out;omega)) (by have:=d.out;omega)) (by have:=d.out;omega)) (by have:=d.out;omega)) (by have:=d.out;omega));generalize ((((((b.setCell ⟨w.heap.size,0,none⟩ (.slice t m r)).setCell ⟨w.heap.size,1,none⟩ (.slice v k n)).setCell ⟨w.heap.size,2,none⟩ (.int .i64 x1)).setCell ⟨w.heap.size,3,none⟩ (.int .i64 x2)).setCell ⟨w.heap.size,4,none⟩ (.int .i64 x3)).setCell ⟨w.heap.size+1,0,none⟩ (.int .i64 0))=wz at J U Q ⊢;obtain⟨I,G,y,A,x,K,B⟩:=J;simp [Leaves,settle,results,Tryz.results70,go_sem,I,G,y,A,x,K];have N:=U.out;have O:=Q.out;rw [d.out]at N O;exact⟨um P.out D.out B (by omega) (by omega) (by omega),Or.inr ⟨_,_,_,C.out,rfl,N,O⟩⟩
theorem pc(w:World)(a:Nat)(p q r m n:Value)(o:w.heap[a]?=some (.cells #[p,q,r,m,n] 56 (0,0)))(e f d c h:Value):
  let w':=((((w.setCell ⟨a,0,none⟩ e).setCell ⟨a,1,none⟩ f).setCell ⟨a,2,none⟩ d).setCell ⟨a,3,none⟩ c).setCell ⟨a,4,none⟩ h
  w'.cell? ⟨a,0,none⟩=some e/\w'.cell? ⟨a,1,none⟩=some f/\w'.cell? ⟨a,2,none⟩=some d/\w'.cell? ⟨a,3,none⟩=some c/\w'.cell? ⟨a,4,none⟩=some h/\w.grownBy w' (some a):=by
 have i:=heap_setCell_same w a 0 _ _ e o;have j:=heap_setCell_same _ a 1 _ _ f i;have l:=heap_setCell_same _ a 2 _ _ d j;have k:=heap_setCell_same _ a 3 _ _ c l;have b:=heap_setCell_same _ a 4 _ _ h k;refine⟨?_,?_,?_,?_,?_,il (il (il (il iV iV) iV) iV) iV⟩
 ·simp [World.cell?,b]
 ·simp [World.cell?,b]
 ·simp [World.cell?,b]
 ·simp [World.cell?,b]
 ·simp [World.cell?,b]
theorem B4(s:ByteArray)(w:World)(S:ShpAt w)(V:s.size<=9223372036854775806):
  Calls Tryz.prog 41 #[.string s] w (DecS w (w.heap.size+6) s):=by
 have X:=ij S;clear S;go_enter Tryz.func41,Tryz.ntmps41
 go_wp2_with fail
 have n:w.grownBy (w.alloc (.cells #[.slice none 0 0,.slice none 0 0,.int .i64 0,.int .i64 0,.int .i64 0] 56)) none:=iq (ir _ _);have G:=heap_alloc_new w (.cells #[.slice none 0 0,.slice none 0 0,.int .i64 0,.int .i64 0,.int .i64 0] 56);have N:(w.alloc (.cells #[.slice none 0 0,.slice none 0 0,.int .i64 0,.int .i64 0,.int .i64 0] 56)).heap.size=w.heap.size+1:=by simp
 generalize w.alloc (.cells #[.slice none 0 0,.slice none 0 0,.int .i64 0,.int .i64 0,.int .i64 0] 56)=w1 at n G N ⊢;have P:=ij (FL s w1 (ShpAt.pres X.out (ip n)) V);have Y:Hid (w1.heap.size+5=w.heap.size+6):=by unfold Hid;omega
 rw [Y.out]at P;have W:=ij n;refine P.out.mono ?_;rintro e b ⟨F,d⟩;have c:b.heap[w.heap.size]?=some (.cells #[.slice none 0 0,.slice none 0 0,.int .i64 0,.int .i64 0,.int .i64 0] 56 (0,0)):=by
  rw [F.block _ (by omega) (by simp)];exact G
 have O:=ij (il W.out F);clear n G F N;rcases d with ⟨d,rfl⟩ | ⟨a,tv,sv,d,rfl,ht,ho⟩
 ·have A:=ij d;have L:b.cell? ⟨w.heap.size,0,none⟩=some (.slice none 0 0):=by simp [World.cell?,c]
  have C:b.frozen? ⟨w.heap.size,0,none⟩=false:=by simp [World.frozen?,c]
  have q:b.cell? ⟨w.heap.size,1,none⟩=some (.slice none 0 0):=by simp [World.cell?,c]
  have z1:b.frozen? ⟨w.heap.size,1,none⟩=false:=by simp [World.frozen?,c]
  have B:b.cell? ⟨w.heap.size,2,none⟩=some (.int .i64 0):=by simp [World.cell?,c]
  have r:b.frozen? ⟨w.heap.size,2,none⟩=false:=by simp [World.frozen?,c]
  have K:b.cell? ⟨w.heap.size,3,none⟩=some (.int .i64 0):=by simp [World.cell?,c]
  have I:b.frozen? ⟨w.heap.size,3,none⟩=false:=by simp [World.frozen?,c]
  have E:b.cell? ⟨w.heap.size,4,none⟩=some (.int .i64 0):=by simp [World.cell?,c]
  have M:b.frozen? ⟨w.heap.size,4,none⟩=false:=by simp [World.frozen?,c]
  clear d;unfold pK;simp only;go_wp2_with fail
  have J:=pc b w.heap.size _ _ _ _ _ c (.slice none 0 0) (.slice none 0 0) (.int .i64 0) (.int .i64 0) (.int .i64 0);clear L q B K E C z1 r I M;generalize (((((b.setCell ⟨w.heap.size,0,none⟩ (.slice none 0 0)).setCell ⟨w.heap.size,1,none⟩ (.slice none 0 0)).setCell ⟨w.heap.size,2,none⟩ (.int .i64 0)).setCell ⟨w.heap.size,3,none⟩ (.int .i64 0)).setCell ⟨w.heap.size,4,none⟩ (.int .i64 0))=wz at J ⊢;obtain⟨H,D,x,y,t,z⟩:=J;refine bodyPost_ret (v:= .tuple #[.agg #[.slice none 0 0,.slice none 0 0,.int .i64 0,.int .i64 0,.int .i64 0],.int .i64 3]) ?_ rfl ?_
  ·simp [results,Tryz.results41,go_sem,H,D,x,y,t]
  ·exact⟨nY O.out z (Nat.le_refl _),Or.inl ⟨A.out,rfl⟩⟩
 ·have A:=ij d;obtain⟨k,h,j,rfl⟩:=iw ht.choose_spec.1;obtain⟨m,f,i,rfl⟩:=iw ho;obtain⟨p,l,x1,x2,x3⟩:=a;have R:=ij ht;have U:=ij ho;have L:b.cell? ⟨w.heap.size,0,none⟩=some (.slice none 0 0):=by simp [World.cell?,c]
  have C:b.frozen? ⟨w.heap.size,0,none⟩=false:=by simp [World.frozen?,c]
  have q:b.cell? ⟨w.heap.size,1,none⟩=some (.slice none 0 0):=by simp [World.cell?,c]
  have z1:b.frozen? ⟨w.heap.size,1,none⟩=false:=by simp [World.frozen?,c]
  have B:b.cell? ⟨w.heap.size,2,none⟩=some (.int .i64 0):=by simp [World.cell?,c]
  have r:b.frozen? ⟨w.heap.size,2,none⟩=false:=by simp [World.frozen?,c]
  have K:b.cell? ⟨w.heap.size,3,none⟩=some (.int .i64 0):=by simp [World.cell?,c]
  have I:b.frozen? ⟨w.heap.size,3,none⟩=false:=by simp [World.frozen?,c]
  have E:b.cell? ⟨w.heap.size,4,none⟩=some (.int .i64 0):=by simp [World.cell?,c]
  have M:b.frozen? ⟨w.heap.size,4,none⟩=false:=by simp [World.frozen?,c]
  clear d ht ho;unfold pK;simp only at R U ⊢;go_wp2_with fail
  have J:=pc b w.heap.size _ _ _ _ _ c (.slice k h j) (.slice m f i) (.int .i64 x1) (.int .i64 x2) (.int .i64 x3);have T:=ij (jl (g:=w.heap.size) (o:=4) (u:= .int .i64 x3) (jl (g:=w.heap.size) (o:=3) (u:= .int .i64 x2) (jl (g:=w.heap.size) (o:=2) (u:= .int .i64 x1) (jl (g:=w.heap.size) (o:=1) (u:= .slice m f i) (jl (g:=w.heap.size) (o:=0) (u:= .slice k h j) R.out (by omega)) (by omega)) (by omega)) (by omega)) (by omega));have Q:=ij (je (g:=w.heap.size) (o:=4) (u:= .int .i64 x3) (je (g:=w.heap.size) (o:=3) (u:= .int .i64 x2) (je (g:=w.heap.size) (o:=2) (u:= .int .i64 x1) (je (g:=w.heap.size) (o:=1) (u:= .slice m f i) (je (g:=w.heap.size) (o:=0) (u:= .slice k h j) U.out (by omega)) (by omega)) (by omega)) (by omega)) (by omega));clear L q B K E C z1 r I M;generalize (((((b.setCell ⟨w.heap.size,0,none⟩ (.slice k h j)).setCell ⟨w.heap.size,1,none⟩ (.slice m f i)).setCell ⟨w.heap.size,2,none⟩ (.int .i64 x1)).setCell ⟨w.heap.size,3,none⟩ (.int .i64 x2)).setCell ⟨w.heap.size,4,none⟩ (.int .i64 x3))=wz at J T Q ⊢;obtain⟨H,D,x,y,t,z⟩:=J;refine bodyPost_ret (v:= .tuple #[.agg #[.slice k h j,.slice m f i,.int .i64 x1,.int .i64 x2,.int .i64 x3],.int .i64 0]) ?_ rfl ?_
  ·simp [results,Tryz.results41,go_sem,H,D,x,y,t]
  ·exact⟨nY O.out z (Nat.le_refl _),Or.inr ⟨_,_,_,A.out,rfl,T.out,Q.out⟩⟩
end
end Go.Proofs.YtklenjmfalljgabGreatDoor
