/- The texts Prn Wrt Rda Rdb Rdc Rdd Rde Rdf Rdg Wrt2 Rdh. -/
import Derived.Test.YtklenjmfalljgabGreatDoorM05
import Derived.Test.YtklenjmfalljgabGreatDoorM06
import Derived.Test.YtklenjmfalljgabGreatDoorM21
import Derived.Laws.BitsAllLaws
import Derived.Laws.Bits64
import Derived.Laws.BytesArg
import Derived.Defers
import Derived.Recover
import Derived.Deep.DeepMust
import Derived.Deep.RegionHeld3
namespace Go.Proofs.YtklenjmfalljgabGreatDoor
set_option maxRecDepth 100000
set_option maxHeartbeats 8000000
section
open Go.RowKit
attribute [local go_sem] Go.World.cell?_alloc_some
def okN(t:Int):Bool:=decide (0<=t) && decide (t<=63)
theorem vi(l:List Int)(v:Value)(w:World)(y:IntsAt w.heap.size w v l):
  Calls Tryz.prog 76 #[v] w fun e w'=>e= .returned (.bool (validS l))/\w.grownBy w' none:=by
 obtain⟨ao,cap,rfl,hcap,hc⟩:=y;by_cases m:l.length<=500
 ·have s:(l.length:Int)<=500:=by omega
  have b:Hid (validS l=l.all okN):=by unfold Hid validS;rw [decide_eq_true m];rfl
  have r:=ij hc;clear hc;go_enter Tryz.func76,Tryz.ntmps76
  go_wp2
  go_loopw [10] (fun i w'=>∃ k:Nat,k<=l.length/\i= .int .i64 k/\w'=w/\Hid ((l.take k).all okN=true)) (fun i _=>l.length - (intOf i).toNat)
  case atStart=>exact⟨0,Nat.zero_le _,rfl,rfl,rfl⟩
  case round=>
   obtain⟨k,hk,rfl,rfl,c⟩:=hrel;by_cases p:k<l.length
   ·obtain⟨g,o,rfl,hg,c0⟩:=r.out k p;have d:=ij (ju l okN k p);have hk0:(0:Int)<=(k:Int):=by omega
    have hk1:(k:Int)<l.length:=by omega
    have f:Hid (okN l[k]=false->validS l=false):=by
     intro h;rw [b.out];have:(l.take (k+1)).all okN=false:=by rw [d.out,h];simp
     rw [<-List.take_append_drop (k+1) l,List.all_append,this];rfl
    generalize l[k]=x at*;by_cases j:0<=x
    ·by_cases n:x<=63
     ·have q:Hid ((l.take (k+1)).all okN=true):=by unfold Hid;rw [d.out,c.out];simp [okN,j,n]
      have t:¬x<0:=by omega
      have u:¬63<x:=by omega
      go_wp2
      go_roundw
      case rel=>exact⟨k+1,by omega,by go_num,trivial,q⟩
      case measure=>simp [intOf];omega
     ·have a:=ij (f.out (by simp [okN,n]));have u:63<x:=by omega
      go_wp2
      go_ret;exact⟨by rw [a.out];rfl,ir _ _⟩
    ·have a:=ij (f.out (by simp [okN,j]));have t:x<0:=by omega
     go_wp2
     go_ret;exact⟨by rw [a.out];rfl,ir _ _⟩
   ·have a:Hid (validS l=true):=by
     unfold Hid;rw [b.out];have:=c.out;rw [List.take_of_length_le (by omega)]at this;exact this
    go_wp2
    go_ret;exact⟨by rw [a.out];rfl,ir _ _⟩
 ·have s:500<(l.length:Int):=by omega
  have b:Hid (validS l=false):=by unfold Hid validS;rw [decide_eq_false m];rfl
  clear hc;go_enter Tryz.func76,Tryz.ntmps76
  go_wp2
  go_ret;exact⟨by rw [b.out];rfl,ir _ _⟩
theorem vS(q:List (Int × Int)):(flatS q).length=q.length*2:=by
 induction q with
 | nil=>rfl
 | cons x q ih=>simp [flatS]at ih ⊢;omega
theorem vT(q:List (Int × Int))(e:q≠[])(x:Int × Int)(a:q.getLast?=some x):(flatS q).set ((q.length - 1)*2+1) (.int .i64 (x.2+1))=flatS (bump q):=by
 induction q with
 | nil=>exact absurd rfl e
 | cons y q ih=>
  cases q with
  | nil=>
   simp at a;subst a
   simp [flatS,bump]
  | cons z q=>
   rw [List.getLast?_cons_cons]at a;have:=ih (by simp) a;have b:flatS (y::z::q)= .int .i64 y.1:: .int .i64 y.2::flatS (z::q):=rfl;have c:flatS (bump (y::z::q))= .int .i64 y.1:: .int .i64 y.2::flatS (bump (z::q)):=rfl;rw [b,c,<-this];have d:((y::z::q).length - 1)*2+1=(((z::q).length - 1)*2+1)+1+1:=by simp;omega
   rw [d,List.set_cons_succ,List.set_cons_succ]
theorem xA(q:List (Int × Int)):(bump q).length=q.length:=by
 induction q with
 | nil=>rfl
 | cons y q ih=>
  cases q with
  | nil=>rfl
  | cons z q=>simp [bump]at ih ⊢;exact ih
theorem xX(q:List (Int × Int))(x:Int × Int)(a:q.getLast?=some x):(flatS q)[(q.length - 1)*2+1]?=some (.int .i64 x.2):=by
 induction q with
 | nil=>simp at a
 | cons y q ih=>
  cases q with
  | nil=>simp at a;subst a;simp [flatS]
  | cons z q=>
   rw [List.getLast?_cons_cons]at a;have:=ih a;have b:flatS (y::z::q)= .int .i64 y.1:: .int .i64 y.2::flatS (z::q):=rfl;have c:((y::z::q).length - 1)*2+1=(((z::q).length - 1)*2+1)+1+1:=by simp;omega
   rw [b,c];exact this
theorem yn:((Tryz.prog.info? 187).map fun i=>(i.zero,i.size,i.bytes))=some (some (.agg #[.int .i64 0,.int .i64 0]),2,16):=by kernel_rfl
theorem Cf(l:List Int)(v:Value)(w:World)(hI:IntsAt w.heap.size w v l)(h5:l.length<=500):
  Calls Tryz.prog 107 #[v] w fun e w'=>∃ x y z,e= .returned (.slice x y z)/\w'.ownsRow w.heap.size 187 2 (.slice x y z) (grp l).length (flatS (grp l))/\w.grownBy w' none:=by
 obtain⟨i0,ae,ai,aj,ak⟩:=info_parts yn;obtain⟨ao,cap,rfl,hcap,hc⟩:=hI;have Z:=ij hc;clear hc;go_enter Tryz.func107,Tryz.ntmps107
 go_wp2_with fail
 go_loopw [3,8] (fun lv i w'=>∃ k:Nat,k<=l.length/\i= .int .i64 k/\Hid (w'.ownsRow w.heap.size 187 2 lv (grp (l.take k)).length (flatS (grp (l.take k)))/\w.grownBy w' none)) (fun _ i _=>l.length - (intOf i).toNat)
 case atStart=>exact⟨0,Nat.zero_le _,rfl,⟨rfl,Or.inl ⟨rfl,rfl⟩⟩,ir _ _⟩
 case round=>
  obtain⟨k,hk,rfl,d⟩:=hrel;obtain⟨c,ay⟩:∃ c,c=wr:=⟨_,rfl⟩;subst ay;obtain⟨x1,x2,x3,rfl⟩:=iw d.out.1;by_cases ag:k<l.length
  ·obtain⟨g,o,rfl,hg,c0⟩:=Z.out k ag;have d0:=ip d.out.2 _ _ c0;have hk0:(0:Int)<=(k:Int):=by omega
   have hk1:(k:Int)<l.length:=by omega
   have O:Hid (l.take (k+1)=l.take k++[l[k]]):=List.take_succ_eq_append_getElem ag;have K:=lN (l.take k);have av:(grp (l.take k)).length<=500:=by simp at K;omega
   have h:=x9 (l.take k);have J:=mI (l.take k);have ab:∀ (w6:World) (g6 a:Nat) (q:List (Int × Int)) (x:Int × Int),q≠[]->q.getLast?=some x->w6.ownsRow w.heap.size 187 2 (.slice (some ⟨g6,0,none⟩) q.length a) q.length (flatS q)->w.grownBy w6 none->
     (w6.setCell ⟨g6,(q.length - 1)*2+1,none⟩ (.int .i64 (x.2+1))).ownsRow w.heap.size 187 2 (.slice (some ⟨g6,0,none⟩) q.length a) (bump q).length (flatS (bump q))/\w.grownBy (w6.setCell ⟨g6,(q.length - 1)*2+1,none⟩ (.int .i64 (x.2+1))) none/\
     w6.cell? ⟨g6,(q.length - 1)*2+1,none⟩=some (.int .i64 x.2)/\w6.frozen? ⟨g6,(q.length - 1)*2+1,none⟩=false:=by
    intro w6 g6 a q x hq L p U;have hql:0<q.length:=List.length_pos_iff.2 hq;refine⟨?_,?_,?_,?_⟩
    ·rw [xA,<-vT q hq x L];exact iU p _ _
    ·exact iD U (iA p g6 rfl)
    ·rw [p.cellAt _ (by omega)];exact xX q x L
    ·rcases p.2 with ⟨e,_⟩ | ⟨g',cap',cur,hv,hb,hh,_⟩
     ·cases e
     ·simp only [Value.slice.injEq,Option.some.injEq,Addr.mk.injEq,true_and,and_true]at hv;obtain⟨rfl,rfl⟩:=hv;simp [World.frozen?,hh]
   have r:=ij ab;clear ab;have f:=ij d.out.1;have A:=ij d.out.2;have H2s:=d.out.2.size;have X:=iA f.out;have S:(grp (l.take k)).length+1<=maxLen:=by unfold maxLen;omega
   have am:¬(l.take k).getLast?=some l[k]->∀ (w6:World) (g6 a:Nat),w6.ownsRow w.heap.size 187 2 (.slice (some ⟨g6,0,none⟩) ((grp (l.take k)).length+1) a) ((grp (l.take k)).length+1) (flatS (grp (l.take k))++[.int .i64 l[k],.int .i64 0])->w.grownBy w6 none->
     (w6.setCell ⟨g6,(grp (l.take k)).length*2+1,none⟩ (.int .i64 1)).ownsRow w.heap.size 187 2 (.slice (some ⟨g6,0,none⟩) ((grp (l.take k)).length+1) a) (grp (l.take (k+1))).length (flatS (grp (l.take (k+1))))/\w.grownBy (w6.setCell ⟨g6,(grp (l.take k)).length*2+1,none⟩ (.int .i64 1)) none/\
     w6.cell? ⟨g6,(grp (l.take k)).length*2+1,none⟩=some (.int .i64 0)/\w6.frozen? ⟨g6,(grp (l.take k)).length*2+1,none⟩=false:=by
    intro hn w6 g6 a p U;have:=r.out w6 g6 a (grp (l.take k)++[(l[k],0)]) (l[k],0) (by simp) (by simp) (by simpa [flatS]using p) U;have e2:bump (grp (l.take k)++[(l[k],0)])=grp (l.take (k+1)):=by
     rw [O.out,sm,if_neg hn];have:∀ q:List (Int × Int),bump (q++[(l[k],0)])=q++[(l[k],1)]:=by
      intro q;induction q with
      | nil=>rfl
      | cons y q ih=>
       cases q with
       | nil=>rfl
       | cons z q=>rw [List.cons_append,List.cons_append,bump,<-List.cons_append,ih];rfl
     exact this _
    rw [e2]at this;simpa using this
   have B:=ij am;clear am;by_cases V:k=0
   ·have C:=B.out (by subst V;simp);have N:=ij C;clear C B r h J K;have q0:((k:Int)==0)=true:=by simp;omega
    clear V c0;generalize l[k]=x at*;go_wp2_with (at_builtin;refine wpList_append_lies _ rfl _ _ _ rfl w.heap.size 187 i0 _ 2 16 Tryz.underlying195 ae ai aj ak rfl (by omega) (.slice x1 x2 x3) (grp (l.take k)).length (flatS (grp (l.take k))) rfl (iG f.out) ⟨c.heap.size,0,none⟩ 1 1 [.int .i64 x,.int .i64 0] rfl rfl (World.news_of_block (cs:= #[.int .i64 x,.int .i64 0]) (t:=187) (fr:=(0,0)) (heap_alloc_new c _)) (by simp [Value.oneCell']) (by omega) S (by omega) (by simp;omega) (c.heap.size+1) (by simp) ?_;intro g6 a w6 G D T aw;obtain⟨f1,b,P,Q⟩:=N.out w6 g6 a G (iZ (iq A.out) D (fun q e=>X q e));have s:=ij f1;have u:=ij b;clear f1 b G D T)
    go_roundw
    case rel=>exact⟨k+1,by omega,by go_num,s.out,u.out⟩
    case measure=>simp [intOf];omega
   ·have q0:((k:Int)==0)=false:=by simp;omega
    have af:k - 1<l.length:=by omega
    obtain⟨g',o',e',_,c1⟩:=Z.out (k - 1) af;simp only [Option.some.injEq,Addr.mk.injEq,and_true]at e';obtain⟨rfl,rfl⟩:=e';have d1:=ip A.out _ _ c1;have E:(l.take k).getLast?=some l[k - 1]:=by
     rw [List.getLast?_eq_getElem?,List.length_take,Nat.min_eq_left (by omega),List.getElem?_take,if_pos (by omega),List.getElem?_eq_getElem af]
    have hkk:(k:Int) - 1=((k - 1:Nat):Int):=by omega
    have q1:(0:Int)<=(k:Int) - 1:=by omega
    have q2:(k:Int) - 1<l.length:=by omega
    have q3:((k:Int) - 1).toNat=k - 1:=by omega
    clear c0 c1 V;by_cases F:l[k]=l[k - 1]
    ·have L:∃ x,(grp (l.take k)).getLast?=some x:=by
      rw [E]at h;cases hg2:(grp (l.take k)).getLast? with
      | none=>rw [hg2]at h;cases h
      | some x=>exact⟨x,rfl⟩
     obtain⟨y,H⟩:=L;have Y:=J y (List.mem_of_getLast? H);have W:grp (l.take k)≠[]:=fun e=>by rw [e]at H;cases H
     have hE:Hid (bump (grp (l.take k))=grp (l.take (k+1))):=by
      unfold Hid;rw [O.out,sm,if_pos (by rw [E,F])]
     obtain⟨m,j⟩:∃ m,(grp (l.take k)).length=m+1:=⟨(grp (l.take k)).length - 1,by have:=List.length_pos_iff.2 W;omega⟩;obtain⟨g6,a,I,_,_⟩:=f.out.form (by omega);have R:=f.out;rw [I]at R;obtain⟨f1,b,P,Q⟩:=r.out c g6 a (grp (l.take k)) y W H R A.out;rw [hE.out,j,Nat.add_sub_cancel]at f1;rw [j,Nat.add_sub_cancel]at b P Q;rw [j]at I;simp only [Value.slice.injEq]at I;obtain⟨rfl,rfl,rfl⟩:=I;have s:=ij f1;have u:=ij b;have au:(l[k]==l[k - 1])=true:=by simpa using F
     have hyc2:y.2<=500:=by simp at Y;omega
     have hyc1:=Y.2.1;have hm500:m+1<=500:=by omega
     have HM:=ij j;rw [j]at S;clear f1 b R r B h J K av hE W H Y j d f A E X O F;generalize l[k]=x at*;generalize l[k - 1]=x' at*;generalize y.2=n at*;go_wp2_with fail
     go_roundw
     case rel=>exact⟨k+1,by omega,by go_num,s.out,u.out⟩
     case measure=>simp [intOf];omega
    ·have C:=B.out (by rw [E];simpa using fun e=>F e.symm);have N:=ij C;have au:(l[k]==l[k - 1])=false:=by simpa using F
     clear C B r h J K E;generalize l[k - 1]=x' at*;generalize l[k]=x at*;go_wp2_with (at_builtin;refine wpList_append_lies _ rfl _ _ _ rfl w.heap.size 187 i0 _ 2 16 Tryz.underlying195 ae ai aj ak rfl (by omega) (.slice x1 x2 x3) (grp (l.take k)).length (flatS (grp (l.take k))) rfl (iG f.out) ⟨c.heap.size,0,none⟩ 1 1 [.int .i64 x,.int .i64 0] rfl rfl (World.news_of_block (cs:= #[.int .i64 x,.int .i64 0]) (t:=187) (fr:=(0,0)) (heap_alloc_new c _)) (by simp [Value.oneCell']) (by omega) S (by omega) (by simp;omega) (c.heap.size+1) (by simp) ?_;intro g6 a w6 G D T aw;obtain⟨f1,b,P,Q⟩:=N.out w6 g6 a G (iZ (iq A.out) D (fun q e=>X q e));have s:=ij f1;have u:=ij b;clear f1 b G D T)
     go_roundw
     case rel=>exact⟨k+1,by omega,by go_num,s.out,u.out⟩
     case measure=>simp [intOf];omega
  ·have ek:l.take k=l:=List.take_of_length_le (by omega);have q2:(l.length:Int)<=(k:Int):=by omega
   have M:=d.out;rw [ek]at M;have aa:=ij M;clear M d;go_wp2
   go_ret;exact⟨_,_,_,rfl,aa.out.1,aa.out.2⟩
def u8s(l:List Nat):List Value:=l.map fun(x:Nat)=> .int .u8 (x:Int)
theorem Bh(l:List Nat):(u8s l).length=l.length:=by simp [u8s]
theorem zx(l:List Nat)(x:Nat):u8s (l++[x])=u8s l++[.int .u8 (x:Int)]:=by simp [u8s]
theorem Ao:((Tryz.prog.info? 5).map fun i=>(i.zero,i.size,i.bytes))=some (some (.int .u8 0),1,1):=by kernel_rfl
def RowM(w:World)(base:Nat)(v:Value)(n:Nat)(xs:List Value):Prop:=
 w.ownsRow base 5 1 v n xs\/∃ g cur,v= .slice (some ⟨g,0,none⟩) n n/\base<=g/\w.heap[g]?=some (.cells cur 5 (n,n+1))/\cur.toList=xs/\xs.length=n
section
variable {w w' : World} {base n : Nat} {v : Value} {xs : List Value}
theorem RowM.form(h:RowM w base v n xs):∃ ao c,v= .slice ao n c:=by
 rcases h with h | ⟨g,cur,rfl,_⟩
 ·obtain⟨x1,x2,x3,rfl⟩:=iw h;exact⟨x1,x3,by rw [iB h]⟩
 ·exact⟨_,_,rfl⟩
theorem RowM.block(h:RowM w base v n xs):∀ k,v.ownBlock=some k->base<=k:=by
 rcases h with h | ⟨g,cur,rfl,hb,_⟩
 ·exact iA h
 ·intro k a;simp only [Value.ownBlock,Option.some.injEq]at a;omega
theorem RowM.lt(h:RowM w base v n xs):∀ k,v.ownBlock=some k->k<w.heap.size:=by
 rcases h with h | ⟨g,cur,rfl,_,hg,_⟩
 ·exact rx h
 ·intro k a;simp only [Value.ownBlock,Option.some.injEq]at a;subst a;exact(Array.getElem?_eq_some_iff.1 hg).1
theorem RowM.keep(h:RowM w base v n xs)(a:∀ k,v.ownBlock=some k->w'.heap[k]?=w.heap[k]?):RowM w' base v n xs:=by
 rcases h with h | ⟨g,cur,rfl,hbg,hg,h4⟩
 ·refine Or.inl ⟨h.1,?_⟩;rcases h.2 with e | ⟨g,cap,cur,rfl,hbg,hg,h4⟩
  ·exact Or.inl e
  ·exact Or.inr ⟨g,cap,cur,rfl,hbg,by rw [a g rfl];exact hg,h4⟩
 ·exact Or.inr ⟨g,cur,rfl,hbg,by rw [a g rfl];exact hg,h4⟩
theorem RowM.alloc{o:Obj}(h:RowM w base v n xs):RowM (w.alloc o) base v n xs:=h.keep fun k hk=>Below.heap_alloc _ _ _ (h.lt k hk)
theorem RowM.len(h:RowM w base v n xs):xs.length=n:=by
 rcases h with h | ⟨g,cur,rfl,hbg,hg,_,h4⟩
 ·simpa using h.1
 ·exact h4
theorem RowM.cells(h:RowM w base v n xs){g:Nat}(a:v.ownBlock=some g):∀ j u,xs[j]?=some u->w.cell? ⟨g,j,none⟩=some u:=by
 intro j u b;rcases h with h | ⟨g',cur,rfl,_,hg',hc,_⟩
 ·have:=h.cells a j u b;have c:(⟨g,0,none⟩:Addr).add j=⟨g,j,none⟩:=by unfold Addr.add;split<;>simp_all
  rwa [c]at this
 ·simp only [Value.ownBlock,Option.some.injEq]at a;subst a;subst hc;simpa [World.cell?,hg']using b
end
theorem ko{o:Oper}{a:Act}{K:Act->World->Prop}{Q:Exit->Act->World->Prop}(w:World)(s x:Operand)
  (q:o.op= .call { callee:= .builtin .append,args:= #[s,x],argTypes:= #[147,147]}) (base:Nat) (v:Value) (n:Nat) (xs:List Value) (r:a.eval s=v) (d:RowM w base v n xs)
  (b:Nat) (y:Value) (t:a.eval x= .slice (some ⟨b,0,none⟩) 1 1) (E:w.heap[b]?=some (.cells #[y] 5 (0,0))) (C:y.oneCell'=true) (hn:n<=2000000) (i:base<=w.heap.size) (H:Nat) (f:w.heap.size=H)
  (h:∀ g cap w',w'.ownsRow base 5 1 (.slice (some ⟨g,0,none⟩) (n+1) cap) (n+1) (xs++[y])->w.grownBy w' v.ownBlock->(v.ownBlock=some g\/g=H)->g<w'.heap.size->K (a.put o.dst (.slice (some ⟨g,0,none⟩) (n+1) cap)) w'):
  o.wp Tryz.prog a w K Q:=by
 obtain⟨B,l,z,c,A⟩:=info_parts Ao;have e:n+1<=maxLen:=by unfold maxLen;omega
 have p:∀ j u,[y][j]?=some u->w.cell? ((⟨b,0,none⟩:Addr).add j)=some u:=World.news_of_block (cs:= #[y]) E;rcases d with d | ⟨g,cur,rfl,hb,hg,hcur,hl⟩
 ·exact wp_append_lies w s x _ q base 5 B _ 1 1 Tryz.underlying147 l z c A rfl (by omega) v n xs r d ⟨b,0,none⟩ 1 1 [y] t rfl p (by simpa using C) (by omega) e (by omega) i H f h
 ·have I:∀ j u,xs[j]?=some u->w.cell? ((⟨g,0,none⟩:Addr).add j)=some u:=fun j u hu=>by
   have D:(⟨g,0,none⟩:Addr).add j=⟨g,j,none⟩:=by unfold Addr.add;split<;>simp_all
   rw [D];exact RowM.cells (v:= .slice (some ⟨g,0,none⟩) n n) (base:=base) (n:=n) (Or.inr ⟨g,cur,rfl,hb,hg,hcur,hl⟩) rfl j u hu
  have J:=run_append_grow (P:=Tryz.prog) w 147 o.type 5 B _ Tryz.underlying147 l z ⟨g,0,none⟩ n n xs (by rw [c];omega) I ⟨b,0,none⟩ 1 1 [y] (by rw [c];rfl) p (by omega) (by omega) (growslice_fits (by omega) (by rw [A];omega));have G:=grownCap_ge w (n+1) n 5;have F:grownCap w (n+1) n 5<=maxLen:=grownCap_le_maxLen w (n+1) n 5 e;have m:(xs++[y]).length=(n+1)*1:=by simp [hl]
  unfold Oper.wp execOp;simp only [q,resolve,invoke,builtin,Sem.run_bind,Sem.run_pure,Result.andThen_ok,List.map_toArray,List.map_cons,List.map_nil,r,t,J];refine h _ _ _ ⟨m,.inr ⟨w.heap.size,_,_,rfl,i,heap_alloc_new w.drew _,G,F,?_,?_⟩⟩ ⟨rfl,rfl,rfl,by simp,fun k hk _=>Below.heap_alloc w.drew _ _ hk⟩ (Or.inr f) (by simp)
  ·have c:(Value.int IntKind.u8 0).cells.size=1:=rfl;simp only [Array.size_append,List.size_toArray,size_zeroCells,c,hl,List.length_singleton];omega
  ·simp only [Array.toList_append,List.append_assoc];rw [<-List.append_assoc,<-m];exact List.take_left
theorem ls{ops:Array Oper}{rest:List Oper}{o:Oper}{a:Act}{Q:Exit->Act->World->Prop}(w:World)(hgd:o.guard=none)(s x:Operand)
  (ho:o.op= .call { callee:= .builtin .append,args:= #[s,x],argTypes:= #[147,147]}) (base:Nat) (v:Value) (n:Nat) (xs:List Value) (hs:a.eval s=v) (hown:RowM w base v n xs)
  (g0:Nat) (y:Value) (hx:a.eval x= .slice (some ⟨g0,0,none⟩) 1 1) (hblk:w.heap[g0]?=some (.cells #[y] 5 (0,0))) (h1:y.oneCell'=true) (hn:n<=2000000) (hbase:base<=w.heap.size) (H:Nat) (hH:w.heap.size=H)
  (h:∀ g cap w',w'.ownsRow base 5 1 (.slice (some ⟨g,0,none⟩) (n+1) cap) (n+1) (xs++[y])->w.grownBy w' v.ownBlock->(v.ownBlock=some g\/g=H)->g<w'.heap.size->wpList Tryz.prog ops Q rest (a.put o.dst (.slice (some ⟨g,0,none⟩) (n+1) cap)) w'):
  wpList Tryz.prog ops Q (o::rest) a w:=
 wpList_plain hgd fun _ hK=>ko w s x ho base v n xs hs hown g0 y hx hblk h1 hn hbase H hH fun g cap w' h2 h3 h4 h5=>hK _ _ (h g cap w' h2 h3 h4 h5)
def bs(l:List Nat):ByteArray:=strOfNums (l.map fun(x:Nat)=>(x:Int))
theorem nX(l:List Nat):(bs l).size=l.length:=by unfold bs;rw [strOfNums_size];simp
theorem tz{l:List Nat}(h:∀ x∈l,x<256):byt (bs l)=l:=by
 unfold byt bs;rw [strOfNums_data,List.map_map,List.map_map];conv=>rhs;rw [<-List.map_id l]
 refine List.map_congr_left fun x hx=>?_
 have:=h x hx;simp;omega
theorem RowM.str{w:World}{base n:Nat}{v:Value}{l:List Nat}(h:RowM w base v n (u8s l)):(convert 147 9 v).run Tryz.prog w= .ok (.string (bs l)) w:=by
 have b:=h.len;rw [Bh]at b;subst b;have a:∀ g,v.ownBlock=some g->∀ i,i<l.length->w.cell? ⟨g,0+i,none⟩=some (.int .u8 ((l.map fun(x:Nat)=>(x:Int)).getD i 0)):=fun g hg i hi=>by
  have:=h.cells hg i (.int .u8 (l[i]:Nat)) (by simp [u8s,hi]);rw [Nat.zero_add,this];simp [List.getD,hi]
 rcases h with h | ⟨g,cur,rfl,_⟩
 ·rcases h.2 with ⟨rfl,e⟩ | ⟨g,cap,cur,rfl,_⟩
  ·have:l=[]:=List.eq_nil_of_length_eq_zero e;subst this;exact run_convert_bytes_nil w _ _ Tryz.underlying147 Tryz.underlying5 0 0 _ Tryz.underlying9
  ·exact run_convert_bytes_arg w _ _ Tryz.underlying147 Tryz.underlying5 g 0 l.length cap _ (by simp) (a g rfl) _ Tryz.underlying9
 ·exact run_convert_bytes_arg w _ _ Tryz.underlying147 Tryz.underlying5 g 0 l.length _ _ (by simp) (a g rfl) _ Tryz.underlying9
structure WrS(W:World)(w:World)(b:Nat)(bv:Value)(l:List Nat):Prop where
 blk:w.heap[b]?=some (.cells #[bv] 172 (0,0))
 row:RowM w W.heap.size bv l.length (u8s l)
 ne:bv.ownBlock≠some b
 lo:W.heap.size<=b
 base:W.grownBy w none
theorem WrS.cell{W w:World}{b:Nat}{bv:Value}{l:List Nat}(h:WrS W w b bv l):w.cell? ⟨b,0,none⟩=some bv:=by have:=h.blk;simp [World.cell?,this]
theorem WrS.free{W w:World}{b:Nat}{bv:Value}{l:List Nat}(h:WrS W w b bv l):w.frozen? ⟨b,0,none⟩=false:=by have:=h.blk;simp [World.frozen?,this]
theorem WrS.lt{W w:World}{b:Nat}{bv:Value}{l:List Nat}(h:WrS W w b bv l):b<w.heap.size:=(Array.getElem?_eq_some_iff.1 h.blk).1
theorem WrS.grown{W w w':World}{b:Nat}{bv:Value}{l:List Nat}(h:WrS W w b bv l)(hg:w.grownBy w' none):WrS W w' b bv l:=
 ⟨by rw [hg.block b h.lt (by simp)];exact h.blk,h.row.keep (fun k hk=>hg.block k (h.row.lt k hk) (by simp)),h.ne,h.lo,il h.base hg⟩
structure WrT(w0 w:World)(b:Nat)(bv0 bv:Value):Prop where
 keep:∀ k,k<w0.heap.size->k≠b->bv0.ownBlock≠some k->w.heap[k]?=w0.heap[k]?
 own:∀ g,bv.ownBlock=some g->bv0.ownBlock=some g\/w0.heap.size<=g
 size:w0.heap.size<=w.heap.size
theorem WrT.refl(w:World)(b:Nat)(bv:Value):WrT w w b bv bv:=⟨fun _ _ _ _=>rfl,fun _ h=>Or.inl h,Nat.le_refl _⟩
theorem WrT.trans{i j l:World}{b:Nat}{c d f:Value}(h:WrT i j b c d)(a:WrT j l b d f):WrT i l b c f:=by
 refine⟨fun k hk hb ho=>?_,fun g hg=>?_,Nat.le_trans h.size a.size⟩
 ·rw [a.keep k (Nat.lt_of_lt_of_le hk h.size) hb (fun e=>by rcases h.own k e with e2 | e2;exact ho e2;omega)];exact h.keep k hk hb ho
 ·rcases a.own g hg with e | e
  ·exact h.own g e
  ·exact Or.inr (Nat.le_trans h.size e)
theorem WrT.grown{w0 w1 w2:World}{b:Nat}{v0 v1:Value}(h:WrT w0 w1 b v0 v1)(hg:w1.grownBy w2 none):WrT w0 w2 b v0 v1:=
 ⟨fun k hk hb ho=>by rw [hg.block k (Nat.lt_of_lt_of_le hk h.size) (by simp)];exact h.keep k hk hb ho,h.own,Nat.le_trans h.size hg.size⟩
theorem WrS.push{W w w6:World}{b:Nat}{a:Value}{l:List Nat}{o:Obj}{g6 c6 x:Nat}(h:WrS W w b a l)(n:w6.ownsRow W.heap.size 5 1 (.slice (some ⟨g6,0,none⟩) (l.length+1) c6) (l.length+1) (u8s l++[.int .u8 x]))
  (c:(w.alloc o).grownBy w6 a.ownBlock) (f:a.ownBlock=some g6\/g6=w.heap.size+1):WrS W (w6.setCell ⟨b,0,none⟩ (.slice (some ⟨g6,0,none⟩) (l.length+1) c6)) b (.slice (some ⟨g6,0,none⟩) (l.length+1) c6) (l++[x])/\
  w6.cell? ⟨b,0,none⟩=some a/\w6.frozen? ⟨b,0,none⟩=false/\WrT w (w6.setCell ⟨b,0,none⟩ (.slice (some ⟨g6,0,none⟩) (l.length+1) c6)) b a (.slice (some ⟨g6,0,none⟩) (l.length+1) c6):=by
 have m:=h.lt;have d:w6.heap[b]?=some (.cells #[a] 172 (0,0)):=by
  rw [c.block b (by simp;omega) (fun e=>h.ne e.symm),Below.heap_alloc _ _ _ m];exact h.blk
 have i:g6≠b:=by
  rcases f with e | e
  ·intro j;exact h.ne (by rw [e,j])
  ·omega
 refine⟨⟨?_,?_,by simpa [Value.ownBlock]using i,h.lo,?_⟩,by simp [World.cell?,d],by simp [World.frozen?,d],fun k hk hb' ho=>?_,fun g hg'=>?_,?_⟩
 ·rw [heap_setCell_same _ b 0 _ _ _ d];rfl
 ·refine Or.inl (ownsRow_setCell_other ?_ (by simpa [Value.ownBlock]using i) _);rw [zx];simpa using n
 ·exact iD (iZ (iq h.base) c h.row.block) h.lo
 ·rw [heap_setCell_other _ _ _ _ hb',c.block k (by simp;omega) (fun e=>ho e.symm),Below.heap_alloc _ _ _ hk]
 ·simp only [Value.ownBlock,Option.some.injEq]at hg';rcases f with e | e
  ·exact Or.inl (by rw [e,hg'])
  ·exact Or.inr (by omega)
 ·have:=c.size;simp at this ⊢;omega
theorem Cg(x:Nat)(h:x<256):x ||| 128=x % 128+128:=by
 have:∀ x:_root_.Fin 256,x.val ||| 128=x.val % 128+128:=by decide+kernel
 exact this ⟨x,h⟩
theorem yG(n:Nat):∀ k,n<128 ^ (k+1)->(numB n).length<=k+1:=by
 induction n using Nat.strongRecOn with
 | ind n ih=>
  intro k a;by_cases h:n<128
  ·rw [jO h];simp
  ·rw [kG h];cases k with
   | zero=>simp at a;omega
   | succ k=>
    have:=ih (n / 128) (by omega) k (by rw [Nat.div_lt_iff_lt_mul (by decide)];rwa [Nat.pow_succ]at a);simp;omega
theorem kn{n:Nat}(h:n<18446744073709551616):(numB n).length<=10:=by
 have a:(128:Nat) ^ (9+1)=1180591620717411303424:=by decide
 exact yG n 9 (by rw [a];omega)
theorem sG(W:World)(b:Nat)(n:Nat)(C:n<18446744073709551616):∀ (w:World) (f:Value) (l:List Nat),WrS W w b f l->l.length<=1000000->
  Calls Tryz.prog 169 #[pt b,.int .u64 n] w fun e w'=>(∃ v,e= .returned v)/\∃ bv',WrS W w' b bv' (l++numB n)/\WrT w w' b f bv':=by
 intro w f l h hl;have F:=ij h;have D:pt b= .pointer (some ⟨b,0,none⟩):=rfl;rw [D];clear h D;go_enter Tryz.func169,Tryz.ntmps169
 go_wp2_with fail
 go_loopw [1] (fun i w'=>∃ (m:Nat) (bv':Value) (a:List Nat),i= .int .u64 m/\m<18446744073709551616/\Hid (WrS W w' b bv' a)/\Hid (WrT w w' b f bv')/\Hid (a++numB m=l++numB n)) (fun i _=>(intOf i).toNat)
 case atStart=>exact⟨n,f,l,rfl,C,F,ij (WrT.refl _ _ _),ij rfl⟩
 case round=>
  obtain⟨m,bv',a,rfl,hm,c,t,r⟩:=hrel;obtain⟨d,E⟩:∃ d,d=wr:=⟨_,rfl⟩;rw [<-E]at c t ⊢;clear E;obtain⟨x1,x3,rfl⟩:=c.out.row.form;have c0:=c.out.cell;have hbs:W.heap.size<=d.heap.size:=c.out.base.size;have hob:=c.out.row.block;have hl':a.length<=1000100:=by
   have z:=congrArg List.length r.out;have:=kn C;simp at z;omega
  by_cases h128:127<m
  ·have K:(127:Int)<(m:Int):=by omega
   have hor:bits .or .u8 ((m:Int) % 256) 128=((m % 128+128:Nat):Int):=by
    have z:((m:Int) % 256)=((m % 256:Nat):Int):=by omega
    have A:=u8_or_nat (m % 256) 128 (by omega) (by omega);rw [z];rw [Cg _ (by omega)]at A;have H:(((128:Nat):Int))=128:=rfl;rw [H]at A;rw [A];congr 1
    omega
   have s:Hid ((a++[m % 128+128])++numB (m / 128)=l++numB n):=by
    have e:numB m=(m % 128+128)::numB (m / 128):=kG (by omega);unfold Hid;rw [<-r.out,e];simp
   generalize m % 128+128=x at*;go_upto_region 2 with (at_builtin;refine ls _ rfl _ _ rfl W.heap.size (.slice x1 a.length x3) a.length (u8s a) rfl c.out.row.alloc d.heap.size (.int .u8 (x:Int)) rfl (heap_alloc_new d _) rfl (by omega) (by simp;omega) (d.heap.size+1) (by simp) ?_;intro g6 G w6 o k j B;obtain⟨p,I,J,q⟩:=c.out.push o k j;have u:=ij p;have y:=ij (t.out.trans q);clear p q o k j B)
   have q3:m / 128<m:=by omega
   go_wp2_with fail
   go_roundw
   case rel=>exact⟨m / 128,_,a++[x],by first | rfl | (congr 1;omega) | go_num,by omega,u,y,s⟩
   case measure=>simp [intOf];omega
  ·have K:¬(127:Int)<(m:Int):=by omega
   have hmod:(m:Int) % 256=m:=by omega
   have s:Hid (a++[m]=l++numB n):=by unfold Hid;rw [<-r.out,jO (by omega)]
   go_wp2_with (at_builtin;refine ls _ rfl _ _ rfl W.heap.size (.slice x1 a.length x3) a.length (u8s a) rfl c.out.row.alloc d.heap.size (.int .u8 (m:Int)) rfl (heap_alloc_new d _) rfl (by omega) (by simp;omega) (d.heap.size+1) (by simp) ?_;intro g6 G w6 o k j B;obtain⟨p,I,J,q⟩:=c.out.push o k j;have u:=ij p;have y:=ij (t.out.trans q);clear p q o k j B)
   go_end0
   exact⟨⟨_,rfl⟩,_,by rw [<-s.out];exact u.out,y.out⟩
def Wrote(W w:World)(b:Nat)(bv:Value)(l:List Nat)(e:Ending)(w':World):Prop:=(∃ v,e= .returned v)/\∃ bv',WrS W w' b bv' l/\WrT w w' b bv bv'
theorem jY(W:World)(b:Nat)(n:Int)(d:0<=n)(h1:n<=9223372036854775807)(w:World)(a:Value)(l:List Nat)(h:WrS W w b a l)(f:l.length<=1000000):
  Calls Tryz.prog 133 #[pt b,.int .i64 n] w (Wrote W w b a (l++wInt n)):=by
 obtain⟨m,rfl⟩:=Int.eq_ofNat_of_zero_le d;have c:=ij (sG W b m (by omega) w a l h f);have i:pt b= .pointer (some ⟨b,0,none⟩):=rfl;rw [i]at*;clear h;go_enter Tryz.func133,Tryz.ntmps133
 go_wp2_with (go_at_call 169;refine c.out.mono ?_;rintro e w1 ⟨⟨v,rfl⟩,j⟩)
 go_end0
 refine⟨⟨_,rfl⟩,?_⟩;unfold wInt;rw [Int.toNat_natCast];exact j
theorem sE(n x:Nat)(h:x<2 ^ n):(2 ^ n - 1) ^^^ x=2 ^ n - 1 - x:=by
 have e:2 ^ n - 1 - x=2 ^ n - (x+1):=by omega
 apply Nat.eq_of_testBit_eq;intro i;rw [Nat.testBit_xor,Nat.testBit_two_pow_sub_one,e,Nat.testBit_two_pow_sub_succ h];by_cases a:i<n
 ·simp [a]
 ·have:x.testBit i=false:=Nat.testBit_lt_two_pow (Nat.lt_of_lt_of_le h (Nat.pow_le_pow_right (by decide) (by omega)));simp [a,this]
theorem B1(n:Int)(h0: -9223372036854775808<=n)(h1:n<0):bits .xor .u64 IntKind.u64.max (IntKind.u64.wrap (IntKind.u64.wrap n*2))= -2*n - 1:=by
 have a:IntKind.u64.wrap n=n+18446744073709551616:=by
  simp only [IntKind.wrap,IntKind.signed,IntKind.bits];simp;omega
 have b:IntKind.u64.wrap ((n+18446744073709551616)*2)=2*n+18446744073709551616:=by
  simp only [IntKind.wrap,IntKind.signed,IntKind.bits];simp;omega
 rw [a,b];obtain⟨x,e⟩:=Int.eq_ofNat_of_zero_le (show 0<=2*n+18446744073709551616 by omega);have d:IntKind.u64.max=((18446744073709551615:Nat):Int):=rfl;rw [e,d,bits_xor_u64_nat _ _ (by decide) (by omega)];have:=sE 64 x (by omega);have c:(2:Nat) ^ 64 - 1=18446744073709551615:=by decide
 rw [c]at this;rw [this];omega
theorem zk(W:World)(b:Nat)(n:Int)(k: -9223372036854775808<=n)(h1:n<=9223372036854775807)(w:World)(c:Value)(l:List Nat)(h:WrS W w b c l)(m:l.length<=1000000):
  Calls Tryz.prog 134 #[pt b,.int .i64 n] w (Wrote W w b c (l++numB (zig n))):=by
 have p:zig n<18446744073709551616:=by unfold zig;split<;>omega
 have i:=ij (sG W b (zig n) p w c l h m);have o:pt b= .pointer (some ⟨b,0,none⟩):=rfl;rw [o]at*;clear h;by_cases d:n<0
 ·have a:Hid (((zig n:Nat):Int)= -2*n - 1):=by unfold Hid zig;rw [if_pos d];omega
  go_enter Tryz.func134,Tryz.ntmps134
  go_wp2_with fail
  rw [B1 n k d,<-a.out];refine i.out.mono ?_;rintro e q ⟨⟨v,rfl⟩,f⟩;go_wp2_with fail
  go_end0
  exact⟨⟨_,rfl⟩,f⟩
 ·have a:Hid (((zig n:Nat):Int)=2*n):=by unfold Hid zig;rw [if_neg d];omega
  go_enter Tryz.func134,Tryz.ntmps134
  go_wp2_with fail
  have j:n*2=((zig n:Nat):Int):=by rw [a.out];omega
  rw [j];refine i.out.mono ?_;rintro e q ⟨⟨v,rfl⟩,f⟩;clear j;go_wp2_with fail
  go_end0
  exact⟨⟨_,rfl⟩,f⟩
theorem jA(s:ByteArray)(k:Nat)(h:k<s.size):(byt s).drop k=s[k].toNat::(byt s).drop (k+1):=by
 have a:k<(byt s).length:=by rw [iL];exact h
 rw [List.drop_eq_getElem_cons a];congr 1
 have:=jU s k h;rw [List.getElem?_eq_getElem a]at this;exact Option.some.inj this
def Refused(e:Ending):Prop:=e= .panicked [{ v:= .iface 174 (.int .i64 3),recovered:=false}]
theorem jd(w:World):Calls Tryz.prog 141 #[.bool true] w fun e w'=>(∃ v,e= .returned v)/\w'=w:=by
 go_enter Tryz.func141,Tryz.ntmps141
 go_wp2_with fail
 go_end0
 exact⟨⟨_,rfl⟩,rfl⟩
theorem i7(w:World):Calls Tryz.prog 141 #[.bool false] w fun e w'=>Refused e/\w'=w:=by
 go_enter Tryz.func141,Tryz.ntmps141
 go_wp2_with fail
 exact⟨rfl,rfl,rfl⟩
structure RdS(W:World)(w:World)(b:Nat)(s:ByteArray)(k:Nat):Prop where
 blk:w.heap[b]?=some (.cells #[.string s,.int .i64 k] 176 (0,0))
 base:W.grownBy w (some b)
 le:k<=s.size
theorem RdS.c0{W w:World}{b k:Nat}{s:ByteArray}(h:RdS W w b s k):w.cell? ⟨b,0,none⟩=some (.string s):=by have:=h.blk;simp [World.cell?,this]
theorem RdS.c1{W w:World}{b k:Nat}{s:ByteArray}(h:RdS W w b s k):w.cell? ⟨b,1,none⟩=some (.int .i64 k):=by have:=h.blk;simp [World.cell?,this]
theorem RdS.z1{W w:World}{b k:Nat}{s:ByteArray}(h:RdS W w b s k):w.frozen? ⟨b,1,none⟩=false:=by have:=h.blk;simp [World.frozen?,this]
theorem RdS.lt{W w:World}{b k:Nat}{s:ByteArray}(h:RdS W w b s k):b<w.heap.size:=(Array.getElem?_eq_some_iff.1 h.blk).1
theorem RdS.grown{W w w':World}{b k:Nat}{s:ByteArray}(h:RdS W w b s k)(hg:w.grownBy w' none):RdS W w' b s k:=
 ⟨by rw [hg.block b h.lt (by simp)];exact h.blk,il h.base (jN hg),h.le⟩
theorem RdS.self{W w:World}{b k:Nat}{s:ByteArray}(h:RdS W w b s k):RdS w w b s k:=⟨h.blk,ir _ _,h.le⟩
theorem RdS.trans{W w w':World}{b k k':Nat}{s:ByteArray}(h:RdS W w b s k)(h':RdS w w' b s k'):RdS W w' b s k':=⟨h'.blk,il h.base h'.base,h'.le⟩
theorem RdS.step{W w:World}{b k:Nat}{s:ByteArray}(h:RdS W w b s k)(hk:k<s.size):RdS W (w.setCell ⟨b,1,none⟩ (.int .i64 ((k+1:Nat):Int))) b s (k+1):=
 ⟨by rw [heap_setCell_same _ b 1 _ _ _ h.blk];rfl,il h.base iM,hk⟩
def Rd{α:Type}(W:World)(b:Nat)(s:ByteArray)(V:World->α->Value->Prop)(res:Option (α × List Nat))(e:Ending)(w':World):Prop:=
 (res=none/\Refused e/\W.grownBy w' (some b))\/∃ x r v k,res=some (x,r)/\e= .returned v/\V w' x v/\RdS W w' b s k/\(byt s).drop k=r
def rdNext(l:List Nat):Option (Nat × List Nat):=match l with
 | []=>none
 | x::r=>some (x,r)
theorem yF(W w:World)(b k:Nat)(s:ByteArray)(h:RdS W w b s k)(hs:s.size<=9223372036854775806):
  Calls Tryz.prog 171 #[pt b] w (Rd W b s (fun _ x v=>v= .int .u8 ((x:Nat):Int)) (rdNext ((byt s).drop k))):=by
 have c0:=h.c0;have c1:=h.c1;have z1:=h.z1;have hle:=h.le;have c:=ij h;clear h;unfold pt;by_cases i:k<s.size
 ·have j:(k:Int)<s.size:=by omega
  have q2:wrap64 ((k:Int)+1)=((k+1:Nat):Int):=by simp [wrap64];omega
  go_enter Tryz.func171,Tryz.ntmps171
  go_wp2_with fail
  go_still_tail 10,(by kernel_rfl)
  go_wp2_with (go_at_call 141;refine(jd _).mono ?_;rintro e l ⟨⟨v,rfl⟩,rfl⟩)
  have a:=c.out.step i;have f:((k:Int)+1)=((k+1:Nat):Int):=by omega
  rw [f];have d:=ij a;generalize w.setCell ⟨b,1,none⟩ (.int .i64 ((k+1:Nat):Int))=w6 at d a ⊢;have d0:=a.c0;have d1:=a.c1;clear a c0 c1 z1 f c;have HB:=ij (jA s k i);go_quiet (fail)
  go_wp2_with fail
  go_ret;refine Or.inr ⟨s[k].toNat,(byt s).drop (k+1),_,k+1,?_,rfl,?_,?_,rfl⟩
  ·rw [HB.out];rfl
  ·rfl
  ·exact d.out.grown (iO _ (iy (ir _ _)))
 ·have j:¬(k:Int)<s.size:=by omega
  go_enter Tryz.func171,Tryz.ntmps171
  go_wp2_with fail
  go_still_tail 10,(by kernel_rfl)
  go_wp2_with (go_at_call 141;refine(i7 _).mono ?_;rintro e l ⟨rfl,rfl⟩)
  refine⟨rfl,Or.inl ⟨?_,rfl,iy c.out.base⟩⟩;have e:(byt s).drop k=[]:=List.drop_eq_nil_iff.2 (by rw [iL];omega);rw [e];rfl
theorem xP(s:ByteArray){i j:Nat}(hi:i<=s.size)(hj:j<=s.size)(h:(byt s).drop i=(byt s).drop j):i=j:=by
 have:=congrArg List.length h;simp only [List.length_drop,iL]at this;omega
theorem kM(W w:World)(b k:Nat)(s:ByteArray)(h:RdS W w b s k)(i:s.size<=9223372036854775806)(c:k<s.size):
  Calls Tryz.prog 171 #[pt b] w fun e w'=>e= .returned (.int .u8 ((s[k].toNat:Nat):Int))/\RdS W w' b s (k+1):=by
 refine(yF W w b k s h i).mono ?_;rintro e w' (⟨a,_⟩ | ⟨x,r,v,k',a,rfl,rfl,d,f⟩)
 ·rw [jA s k c]at a;cases a
 ·rw [jA s k c]at a;simp only [rdNext,Option.some.injEq,Prod.mk.injEq]at a;obtain⟨rfl,rfl⟩:=a;have:=xP s d.le (show k+1<=s.size from c) f;subst this;exact⟨rfl,d⟩
theorem kL(W w:World)(b k:Nat)(s:ByteArray)(h:RdS W w b s k)(i:s.size<=9223372036854775806)(hk:¬k<s.size):
  Calls Tryz.prog 171 #[pt b] w fun e w'=>Refused e/\W.grownBy w' (some b):=by
 have f:(byt s).drop k=[]:=List.drop_eq_nil_iff.2 (by rw [iL];omega);refine(yF W w b k s h i).mono ?_;rintro e w' (⟨_,c,d⟩ | ⟨x,r,v,k',a,rfl,rfl,c,d⟩)
 ·exact⟨c,d⟩
 ·rw [f]at a;cases a
theorem nc(x place:Nat):((x:Int) % 128*2 ^ place)=((x % 128*2 ^ place:Nat):Int):=by push_cast;rfl
theorem nf(m:Nat):IntKind.u64.wrap (m:Int)=((m % 18446744073709551616:Nat):Int):=by
 simp only [IntKind.wrap,IntKind.signed,IntKind.bits];simp
theorem xW(x a:Nat)(h:x % 128*2 ^ a<18446744073709551616):(IntKind.u64.wrap ((x:Int) % 128*2 ^ a) / 2 ^ a==(x:Int) % 128)=true:=by
 rw [nc,nf,Nat.mod_eq_of_lt h];have e:((2:Int) ^ a)=((2 ^ a:Nat):Int):=by push_cast;rfl
 rw [e,<-Int.natCast_ediv,Nat.mul_div_cancel _ (Nat.two_pow_pos a)];simp
theorem Ab(x a:Nat)(h:¬x % 128*2 ^ a<18446744073709551616)(_hp:a<64):(IntKind.u64.wrap ((x:Int) % 128*2 ^ a) / 2 ^ a==(x:Int) % 128)=false:=by
 rw [nc,nf];have e:((2:Int) ^ a)=((2 ^ a:Nat):Int):=by push_cast;rfl
 rw [e,<-Int.natCast_ediv];have c:x % 128*2 ^ a % 18446744073709551616 / 2 ^ a≠x % 128:=by
  intro b;have h3:x % 128*2 ^ a<=x % 128*2 ^ a % 18446744073709551616:=by
   have:=Nat.div_mul_le_self (x % 128*2 ^ a % 18446744073709551616) (2 ^ a);rw [b]at this;exact this
  have:=Nat.mod_lt (x % 128*2 ^ a) (show 0<18446744073709551616 by decide);omega
 rw [beq_eq_false_iff_ne];intro b;apply c;have:((x:Int) % 128)=((x % 128:Nat):Int):=by push_cast;rfl
 rw [this]at b;exact_mod_cast b
theorem oD(n x a:Nat)(hn:n<2 ^ a)(h:x % 128*2 ^ a<18446744073709551616)(hp:a<64):n+x % 128*2 ^ a<18446744073709551616/\n+x % 128*2 ^ a<2 ^ (a+7):=by
 constructor
 ·have e:18446744073709551616=2 ^ (64 - a)*2 ^ a:=by rw [<-Nat.pow_add,show 64 - a+a=64 by omega]
  rw [e]at h ⊢;have b:x % 128<2 ^ (64 - a):=Nat.lt_of_mul_lt_mul_right h;have c:(x % 128+1)*2 ^ a<=2 ^ (64 - a)*2 ^ a:=Nat.mul_le_mul_right _ b;rw [Nat.add_mul,Nat.one_mul]at c;omega
 ·have b:2 ^ (a+7)=128*2 ^ a:=by rw [Nat.pow_add,Nat.mul_comm]
  have c:x % 128*2 ^ a<=127*2 ^ a:=Nat.mul_le_mul_right _ (by omega);omega
theorem Ac(n x a:Nat)(b:n<2 ^ a)(h:x % 128*2 ^ a<18446744073709551616)(c:a<64):bits .or .u64 (n:Int) (IntKind.u64.wrap ((x:Int) % 128*2 ^ a))=((n+x % 128*2 ^ a:Nat):Int):=by
 have h64:=(oD n x a b h c).1;rw [nc,nf,Nat.mod_eq_of_lt h,u64_or_nat _ _ (by omega) h,Nat.or_comm,nat_join a _ _ (Nat.mul_mod_left _ _) b,Nat.add_comm]
theorem sH(W w:World)(b k:Nat)(s:ByteArray)(h:RdS W w b s k)(D:s.size<=9223372036854775806):
  Calls Tryz.prog 187 #[pt b] w (Rd W b s (fun _ x v=>v= .int .u64 ((x:Nat):Int)) (rdN 0 0 ((byt s).drop k))):=by
 have E:=ij h;have C:pt b= .pointer (some ⟨b,0,none⟩):=rfl;rw [C];clear h C;go_enter Tryz.func187,Tryz.ntmps187
 go_wp2_with fail
 go_loopw [3,4] (fun nv pv w'=>∃ (n a d:Nat),nv= .int .u64 n/\pv= .int .i64 a/\a<=70/\n<2 ^ a/\Hid (RdS W w' b s d)/\Hid (rdN a n ((byt s).drop d)=rdN 0 0 ((byt s).drop k))) (fun _ pv _=>71 - (intOf pv).toNat)
 case atStart=>exact⟨0,0,k,rfl,rfl,by omega,by simp,E,ij rfl⟩
 case round=>
  obtain⟨n,a,d,rfl,rfl,hpl,B,y,j⟩:=hrel;obtain⟨q,J⟩:∃ q,q=wr:=⟨_,rfl⟩;subst J;by_cases r:d<s.size
  ·have HB:=ij (jA s d r);have hb:=s[d].toNat_lt;have i:=ij (kM W q b d s y.out D r);generalize s[d].toNat=x at*;have hand:bits .and .u8 (x:Int) 127=((x % 128:Nat):Int):=by
    have:=u8_and_nat x 127 (by omega) (by decide);rw [nat_mask7]at this;exact this
   have hx8:x<256:=by omega
   by_cases o:a<64
   ·have K:(a:Int)<64:=by omega
    by_cases l:x % 128*2 ^ a<18446744073709551616
    ·have I:=xW x a l;have hor:=Ac n x a B l o;have F:=ij (oD n x a B l o);by_cases A:x<128
     ·have L:(x:Int)<128:=by omega
      have p:Hid (rdN 0 0 ((byt s).drop k)=if 0<x\/a=0 then some (n+x % 128*2 ^ a,(byt s).drop (d+1)) else none):=by
       unfold Hid;rw [<-j.out,HB.out,rdN,if_pos ⟨o,l⟩,if_pos A]
      clear j;by_cases z:0<x
      ·have M:(0:Int)<(x:Int):=by omega
       go_wp2_with (first | (go_at_call 171;refine i.out.mono ?_;rintro e w6 ⟨rfl,c⟩;have f:=ij c;clear c) | (go_at_call 141;refine(jd _).mono ?_;rintro e m ⟨⟨u,rfl⟩,rfl⟩))
       go_ret;exact Or.inr ⟨n+x % 128*2 ^ a,(byt s).drop (d+1),_,d+1,by rw [p.out,if_pos (Or.inl z)],rfl,rfl,f.out,rfl⟩
      ·have M:¬(0:Int)<(x:Int):=by omega
       by_cases t:a=0
       ·have N:((a:Int)==0)=true:=by simp;omega
        have G:Hid (rdN 0 0 ((byt s).drop k)=some (n+x % 128*2 ^ a,(byt s).drop (d+1))):=by
         unfold Hid;rw [p.out,if_pos (Or.inr t)]
        clear t;go_wp2_with (first | (go_at_call 171;refine i.out.mono ?_;rintro e w6 ⟨rfl,c⟩;have f:=ij c;clear c) | (go_at_call 141;first | (refine(jd _).mono ?_;rintro e m ⟨⟨u,rfl⟩,rfl⟩) | (refine(i7 _).mono ?_;rintro e m ⟨rfl,rfl⟩)))
        go_ret;exact Or.inr ⟨n+x % 128*2 ^ a,(byt s).drop (d+1),_,d+1,G.out,rfl,rfl,f.out,rfl⟩
       ·have N:((a:Int)==0)=false:=by simp;omega
        go_wp2_with (first | (go_at_call 171;refine i.out.mono ?_;rintro e w6 ⟨rfl,c⟩;have f:=ij c;clear c) | (go_at_call 141;first | (refine(jd _).mono ?_;rintro e m ⟨⟨u,rfl⟩,rfl⟩) | (refine(i7 _).mono ?_;rintro e m ⟨rfl,rfl⟩)))
        refine⟨rfl,Or.inl ⟨?_,rfl,f.out.base⟩⟩;rw [p.out,if_neg (fun h=>h.elim z t)]
     ·have L:¬(x:Int)<128:=by omega
      have p:Hid (rdN (a+7) (n+x % 128*2 ^ a) ((byt s).drop (d+1))=rdN 0 0 ((byt s).drop k)):=by
       unfold Hid;rw [<-j.out,HB.out,rdN,if_pos ⟨o,l⟩,if_neg A]
      clear j;go_wp2_with (first | (go_at_call 171;refine i.out.mono ?_;rintro e w6 ⟨rfl,c⟩;have f:=ij c;clear c) | (go_at_call 141;refine(jd _).mono ?_;rintro e m ⟨⟨u,rfl⟩,rfl⟩))
      go_roundw
      case rel=>exact⟨n+x % 128*2 ^ a,a+7,d+1,rfl,by first | rfl | (congr 1),by omega,F.out.2,f,p⟩
      case measure=>simp [intOf];omega
    ·have I:=Ab x a l o;go_wp2_with (first | (go_at_call 171;refine i.out.mono ?_;rintro e w6 ⟨rfl,c⟩;have f:=ij c;clear c) | (go_at_call 141;refine(i7 _).mono ?_;rintro e m ⟨rfl,rfl⟩))
     refine⟨rfl,Or.inl ⟨?_,rfl,f.out.base⟩⟩;rw [<-j.out,HB.out,rdN,if_neg (fun h=>l h.2)]
   ·have K:¬(a:Int)<64:=by omega
    go_wp2_with (first | (go_at_call 171;refine i.out.mono ?_;rintro e w6 ⟨rfl,c⟩;have f:=ij c;clear c) | (go_at_call 141;refine(i7 _).mono ?_;rintro e m ⟨rfl,rfl⟩))
    refine⟨rfl,Or.inl ⟨?_,rfl,f.out.base⟩⟩;rw [<-j.out,HB.out,rdN,if_neg (fun h=>o h.1)]
  ·have i:=ij (kL W q b d s y.out D r);have H:Hid ((byt s).drop d=[]):=List.drop_eq_nil_iff.2 (by rw [iL];omega);go_wp2_with (go_at_call 171;refine i.out.mono ?_;rintro e w6 ⟨rfl,c⟩)
   refine⟨rfl,Or.inl ⟨?_,rfl,c⟩⟩;rw [<-j.out,H.out,rdN]
theorem BP(l:List Nat):∀ (c a x:Nat) (r:List Nat),a<2 ^ c->rdN c a l=some (x,r)->x<18446744073709551616:=by
 induction l with
 | nil=>intro c a x r _ h;cases h
 | cons b l ih=>
  intro c a x r e h;rw [rdN]at h;split at h
  ·rename_i h1
   have d:=oD a b c e h1.2 h1.1;split at h
   ·split at h
    ·simp only [Option.some.injEq,Prod.mk.injEq]at h;rw [<-h.1];exact d.1
    ·cases h
   ·exact ih _ _ _ _ d.2 h
  ·cases h
theorem kP(W w:World)(b k:Nat)(s:ByteArray)(h:RdS W w b s k)(q:s.size<=9223372036854775806):
  Calls Tryz.prog 175 #[pt b] w (Rd W b s (fun _ x v=>v= .int .i64 x) (rdWhole ((byt s).drop k))):=by
 have m:=ij (sH W w b k s h q);have p:pt b= .pointer (some ⟨b,0,none⟩):=rfl;rw [p]at*;clear h;go_enter Tryz.func175,Tryz.ntmps175
 go_wp2_with fail
 refine m.out.mono ?_;rintro e w1 (⟨a,rfl,o⟩ | ⟨n,r,v,k1,a,rfl,rfl,d,f⟩)
 ·have c:Hid (rdWhole ((byt s).drop k)=none):=by unfold Hid rdWhole;rw [a]
  clear a;go_wp2_with fail
  exact⟨rfl,Or.inl ⟨c.out,rfl,o⟩⟩
 ·have i:=ij d;have l:=ij f;by_cases j:n<=9223372036854775807
  ·have c:Hid (rdWhole ((byt s).drop k)=some ((n:Int),r)):=by unfold Hid rdWhole;rw [a];simp only;rw [if_pos j]
   have q1:(n:Int)<=9223372036854775807:=by omega
   clear a d f;go_wp2_with (go_at_call 141;refine(jd _).mono ?_;rintro e t ⟨⟨v7,rfl⟩,rfl⟩)
   go_ret;exact Or.inr ⟨(n:Int),r,_,k1,c.out,rfl,rfl,i.out,l.out⟩
  ·have c:Hid (rdWhole ((byt s).drop k)=none):=by unfold Hid rdWhole;rw [a];simp only;rw [if_neg j]
   have qd:decide ((n:Int)<=9223372036854775807)=false:=by simp;omega
   clear a d f;go_wp2_with (go_at_call 141;refine(i7 _).mono ?_;rintro e t ⟨rfl,rfl⟩)
   exact⟨rfl,Or.inl ⟨c.out,rfl,i.out.base⟩⟩
theorem Bo(n:Nat)(hn:n<18446744073709551616)(h:n % 2=1):wrap64 (bits .xor .u64 IntKind.u64.max ((n:Int) / 2))=zag n:=by
 have b:IntKind.u64.max=((18446744073709551615:Nat):Int):=rfl;have e:((n:Int) / 2)=((n / 2:Nat):Int):=by omega
 rw [e,b,u64_xor_nat _ _ (by decide) (by omega)];have:=sE 64 (n / 2) (by omega);have a:(2:Nat) ^ 64 - 1=18446744073709551615:=by decide
 rw [a]at this;rw [this];unfold zag;rw [if_pos h];simp only [wrap64];omega
theorem zj(W w:World)(b k:Nat)(s:ByteArray)(h:RdS W w b s k)(z:s.size<=9223372036854775806):
  Calls Tryz.prog 193 #[pt b] w (Rd W b s (fun _ x v=>v= .int .i64 x) (rdSigned ((byt s).drop k))):=by
 have p:=ij (sH W w b k s h z);have y:pt b= .pointer (some ⟨b,0,none⟩):=rfl;rw [y]at*;clear h;go_enter Tryz.func193,Tryz.ntmps193
 go_wp2_with fail
 refine p.out.mono ?_;rintro e w1 (⟨a,rfl,u⟩ | ⟨n,r,v,k1,a,rfl,rfl,j,m⟩)
 ·have c:Hid (rdSigned ((byt s).drop k)=none):=by unfold Hid rdSigned;rw [a]
  clear a;go_wp2_with fail
  exact⟨rfl,Or.inl ⟨c.out,rfl,u⟩⟩
 ·have i:=ij j;have f:=ij m;have o:=BP _ 0 0 n r (by simp) a;have c:Hid (rdSigned ((byt s).drop k)=some (zag n,r)):=by unfold Hid rdSigned;rw [a]
  clear a j m;have l:bits .and .u64 (n:Int) 1=((n % 2:Nat):Int):=by
   have:=u64_and_nat n 1 o (by decide);rw [nat_mask1]at this;exact this
  by_cases d:n % 2=1
  ·rw [d]at l;have A:=Bo n o d;go_wp2_with fail
   go_ret;exact Or.inr ⟨zag n,r,_,k1,c.out,rfl,by first | rfl | (rw [<-A];rfl),i.out,f.out⟩
  ·have t:n % 2=0:=by omega
   rw [t]at l;have q:Hid (zag n=((n / 2:Nat):Int)):=by unfold Hid zag;rw [if_neg d]
   go_wp2_with fail
   go_ret;exact Or.inr ⟨zag n,r,_,k1,c.out,rfl,by rw [q.out];rfl,i.out,f.out⟩
theorem ru(W w:World)(b k:Nat)(s:ByteArray)(h:RdS W w b s k)(t:s.size<=9223372036854775806)(m:Int):
  Calls Tryz.prog 172 #[pt b,.int .i64 m] w (Rd W b s (fun _ x v=>v= .int .i64 x) (rdMost m ((byt s).drop k))):=by
 have o:=ij (kP W w b k s h t);have q:pt b= .pointer (some ⟨b,0,none⟩):=rfl;rw [q]at*;clear h;go_enter Tryz.func172,Tryz.ntmps172
 go_wp2_with fail
 refine o.out.mono ?_;rintro e w1 (⟨a,rfl,p⟩ | ⟨n,r,v,k1,a,rfl,rfl,d,f⟩)
 ·have c:Hid (rdMost m ((byt s).drop k)=none):=by unfold Hid rdMost;rw [a]
  clear a;go_wp2_with fail
  exact⟨rfl,Or.inl ⟨c.out,rfl,p⟩⟩
 ·have i:=ij d;have l:=ij f;by_cases j:n<=m
  ·have c:Hid (rdMost m ((byt s).drop k)=some (n,r)):=by unfold Hid rdMost;rw [a];simp only;rw [if_pos j]
   clear a d f;go_wp2_with (go_at_call 141;refine(jd _).mono ?_;rintro e u ⟨⟨v7,rfl⟩,rfl⟩)
   go_ret;exact Or.inr ⟨n,r,_,k1,c.out,rfl,rfl,i.out,l.out⟩
  ·have c:Hid (rdMost m ((byt s).drop k)=none):=by unfold Hid rdMost;rw [a];simp only;rw [if_neg j]
   have qd:decide (n<=m)=false:=by simp;omega
   clear a d f;go_wp2_with (go_at_call 141;refine(i7 _).mono ?_;rintro e u ⟨rfl,rfl⟩)
   exact⟨rfl,Or.inl ⟨c.out,rfl,i.out.base⟩⟩
structure InS(W w:World)(b:Nat)(s:ByteArray)(k T c d:Nat)(vs us:Array Value):Prop where
 rd:RdS W w b s k
 var:w.heap[c]?=some (.cells vs T (0,0))
 res:w.heap[d]?=some (.cells us T (0,0))
 cb:c≠b
 db:d≠b
 cd:c≠d
 lc:W.heap.size<=c
 ld:W.heap.size<=d
theorem InS.call{W w w':World}{b k k' T c d:Nat}{s:ByteArray}{vs us:Array Value}(h:InS W w b s k T c d vs us)(h':RdS w w' b s k'):InS W w' b s k' T c d vs us:=
 ⟨h.rd.trans h',by rw [h'.base.block c (Array.getElem?_eq_some_iff.1 h.var).1 (by simpa using h.cb)];exact h.var,
  by rw [h'.base.block d (Array.getElem?_eq_some_iff.1 h.res).1 (by simpa using h.db)];exact h.res,h.cb,h.db,h.cd,h.lc,h.ld⟩
theorem InS.cell{W w:World}{b k T c d:Nat}{s:ByteArray}{a e:Array Value}(h:InS W w b s k T c d a e)(o:Nat):w.cell? ⟨c,o,none⟩=a[o]?:=by
 have:=h.var;simp [World.cell?,this]
theorem InS.free{W w:World}{b k T c d:Nat}{s:ByteArray}{e a:Array Value}(h:InS W w b s k T c d e a)(o:Nat):w.frozen? ⟨c,o,none⟩=false:=by
 have:=h.var;simp [World.frozen?,this]
theorem InS.rcell{W w:World}{b k T c d:Nat}{s:ByteArray}{e a:Array Value}(h:InS W w b s k T c d e a)(o:Nat):w.cell? ⟨d,o,none⟩=a[o]?:=by
 have:=h.res;simp [World.cell?,this]
theorem InS.rfree{W w:World}{b k T c d:Nat}{s:ByteArray}{e a:Array Value}(h:InS W w b s k T c d e a)(o:Nat):w.frozen? ⟨d,o,none⟩=false:=by
 have:=h.res;simp [World.frozen?,this]
theorem InS.set{W w:World}{b k T c d:Nat}{s:ByteArray}{e a:Array Value}(h:InS W w b s k T c d e a)(o:Nat)(v:Value):InS W (w.setCell ⟨c,o,none⟩ v) b s k T c d (e.setIfInBounds o v) a:=by
 refine⟨⟨?_,iD h.rd.base h.lc,h.rd.le⟩,?_,?_,h.cb,h.db,h.cd,h.lc,h.ld⟩
 ·rw [heap_setCell_other _ _ _ _ (Ne.symm h.cb)];exact h.rd.blk
 ·rw [heap_setCell_same _ c o _ _ _ h.var]
 ·rw [heap_setCell_other _ _ _ _ (Ne.symm h.cd)];exact h.res
theorem InS.rset{W w:World}{b k T c d:Nat}{s:ByteArray}{e a:Array Value}(h:InS W w b s k T c d e a)(o:Nat)(v:Value):InS W (w.setCell ⟨d,o,none⟩ v) b s k T c d e (a.setIfInBounds o v):=by
 refine⟨⟨?_,iD h.rd.base h.ld,h.rd.le⟩,?_,?_,h.cb,h.db,h.cd,h.lc,h.ld⟩
 ·rw [heap_setCell_other _ _ _ _ (Ne.symm h.db)];exact h.rd.blk
 ·rw [heap_setCell_other _ _ _ _ h.cd];exact h.var
 ·rw [heap_setCell_same _ d o _ _ _ h.res]
theorem InS.start{W w:World}{b k T:Nat}{s:ByteArray}(h:RdS W w b s k)(a c:Array Value):InS W ((w.alloc (.cells a T)).alloc (.cells c T)) b s k T (w.heap.size+1) w.heap.size c a:=by
 have hb:=h.lt;have d:=h.base.size;refine⟨h.grown (iq (iq (ir _ _))),?_,?_,by omega,by omega,by omega,by omega,d⟩
 ·have:=heap_alloc_new (w.alloc (.cells a T)) (.cells c T);simpa using this
 ·rw [Below.heap_alloc _ _ _ (by simp)];exact heap_alloc_new _ _
def insA(i:Ins):Value:= .agg #[.int .i64 i.op,.int .i64 i.a,.int .i64 i.b,.int .i64 i.n]
theorem Cd(W w:World)(b k:Nat)(s:ByteArray)(h:RdS W w b s k)(A:s.size<=9223372036854775806):
  Calls Tryz.prog 186 #[pt b] w (Rd W b s (fun _ x v=>v=insA x) (rdIns ((byt s).drop k))):=by
 have E:=ij h;have S:pt b= .pointer (some ⟨b,0,none⟩):=rfl;rw [S]at*;clear h;go_enter Tryz.func186,Tryz.ntmps186
 go_wp2_with fail
 have q:=InS.start (T:=65) E.out #[.int .i64 0,.int .i64 0,.int .i64 0,.int .i64 0] #[.int .i64 0,.int .i64 0,.int .i64 0,.int .i64 0];generalize (w.alloc (.cells #[.int .i64 0,.int .i64 0,.int .i64 0,.int .i64 0] 65)).alloc (.cells #[.int .i64 0,.int .i64 0,.int .i64 0,.int .i64 0] 65)=w1 at q ⊢;refine(kP w1 w1 b k s q.rd.self A).mono ?_;rintro e x1 (⟨d,rfl,l⟩ | ⟨o,y,v,k1,d,rfl,rfl,j,rfl⟩)
 ·have p:Hid (rdIns ((byt s).drop k)=none):=by unfold Hid rdIns;rw [d]
  have m:=ij (il q.rd.base l);clear d l q;go_wp2_with fail
  exact⟨rfl,Or.inl ⟨p.out,rfl,m.out⟩⟩
 have z:=ij d;have I:=q.call j;have f:=ij I;have c1:x1.cell? ⟨w.heap.size+1,0,none⟩=some (.int .i64 0):=by simpa using I.cell 0
 have f1:=I.free 0;clear q I j d;go_wp2_with fail
 have r:=f.out.set 0 (.int .i64 o);generalize x1.setCell ⟨w.heap.size+1,0,none⟩ (.int .i64 o)=y1 at r ⊢;clear f c1 f1;refine(kP y1 y1 b k1 s r.rd.self A).mono ?_;rintro e x2 (⟨d,rfl,l⟩ | ⟨a,y,v,k2,d,rfl,rfl,j,rfl⟩)
 ·have p:Hid (rdIns ((byt s).drop k)=none):=by unfold Hid rdIns;rw [z.out];simp only;rw [d]
  have m:=ij (il r.rd.base l);clear d l r;go_wp2_with fail
  exact⟨rfl,Or.inl ⟨p.out,rfl,m.out⟩⟩
 have B:=ij d;have I:=r.call j;have f:=ij I;have c1:x2.cell? ⟨w.heap.size+1,1,none⟩=some (.int .i64 0):=by simpa using I.cell 1
 have f1:=I.free 1;clear r I j d;go_wp2_with fail
 have t:=f.out.set 1 (.int .i64 a);generalize x2.setCell ⟨w.heap.size+1,1,none⟩ (.int .i64 a)=y2 at t ⊢;clear f c1 f1;refine(kP y2 y2 b k2 s t.rd.self A).mono ?_;rintro e x3 (⟨d,rfl,l⟩ | ⟨c,y,v,U,d,rfl,rfl,j,rfl⟩)
 ·have p:Hid (rdIns ((byt s).drop k)=none):=by unfold Hid rdIns;rw [z.out];simp only;rw [B.out];simp only;rw [d]
  have m:=ij (il t.rd.base l);clear d l t;go_wp2_with fail
  exact⟨rfl,Or.inl ⟨p.out,rfl,m.out⟩⟩
 have D:=ij d;have I:=t.call j;have f:=ij I;have c1:x3.cell? ⟨w.heap.size+1,2,none⟩=some (.int .i64 0):=by simpa using I.cell 2
 have f1:=I.free 2;clear t I j d;go_wp2_with fail
 have u:=f.out.set 2 (.int .i64 c);generalize x3.setCell ⟨w.heap.size+1,2,none⟩ (.int .i64 c)=y3 at u ⊢;clear f c1 f1;refine(zj y3 y3 b U s u.rd.self A).mono ?_;rintro e i (⟨d,rfl,l⟩ | ⟨n,y,v,V,d,rfl,rfl,j,rfl⟩)
 ·have p:Hid (rdIns ((byt s).drop k)=none):=by unfold Hid rdIns;rw [z.out];simp only;rw [B.out];simp only;rw [D.out];simp only;rw [d]
  have m:=ij (il u.rd.base l);clear d l u;go_wp2_with fail
  exact⟨rfl,Or.inl ⟨p.out,rfl,m.out⟩⟩
 have F:=ij d;have I:=u.call j;have f:=ij I;have c1:i.cell? ⟨w.heap.size+1,3,none⟩=some (.int .i64 0):=by simpa using I.cell 3
 have f1:=I.free 3;clear u I j d;have I:=f.out.set 3 (.int .i64 n);have G:(i.setCell ⟨w.heap.size+1,3,none⟩ (.int .i64 n)).cell? ⟨w.heap.size+1,0,none⟩=some (.int .i64 o):=by simpa using I.cell 0
 have Q:i.frozen? ⟨w.heap.size,0,none⟩=false:=f.out.rfree 0;have X:(i.setCell ⟨w.heap.size+1,3,none⟩ (.int .i64 n)).cell? ⟨w.heap.size,0,none⟩=some (.int .i64 0):=by simpa using I.rcell 0
 have H:(i.setCell ⟨w.heap.size+1,3,none⟩ (.int .i64 n)).cell? ⟨w.heap.size+1,1,none⟩=some (.int .i64 a):=by simpa using I.cell 1
 have g1:i.frozen? ⟨w.heap.size,1,none⟩=false:=f.out.rfree 1;have y:(i.setCell ⟨w.heap.size+1,3,none⟩ (.int .i64 n)).cell? ⟨w.heap.size,1,none⟩=some (.int .i64 0):=by simpa using I.rcell 1
 have K:(i.setCell ⟨w.heap.size+1,3,none⟩ (.int .i64 n)).cell? ⟨w.heap.size+1,2,none⟩=some (.int .i64 c):=by simpa using I.cell 2
 have g2:i.frozen? ⟨w.heap.size,2,none⟩=false:=f.out.rfree 2;have Y:(i.setCell ⟨w.heap.size+1,3,none⟩ (.int .i64 n)).cell? ⟨w.heap.size,2,none⟩=some (.int .i64 0):=by simpa using I.rcell 2
 have L:(i.setCell ⟨w.heap.size+1,3,none⟩ (.int .i64 n)).cell? ⟨w.heap.size+1,3,none⟩=some (.int .i64 n):=by simpa using I.cell 3
 have R:i.frozen? ⟨w.heap.size,3,none⟩=false:=f.out.rfree 3;have Z:(i.setCell ⟨w.heap.size+1,3,none⟩ (.int .i64 n)).cell? ⟨w.heap.size,3,none⟩=some (.int .i64 0):=by simpa using I.rcell 3
 have C:=ij I;clear I;go_wp2_with fail
 have J:=((((C.out.rset 0 (.int .i64 o)).rset 1 (.int .i64 a)).rset 2 (.int .i64 c)).rset 3 (.int .i64 n));clear c1 f1 f C G Q X H g1 y K g2 Y L R Z;generalize (((((i.setCell ⟨w.heap.size+1,3,none⟩ (.int .i64 n)).setCell ⟨w.heap.size,0,none⟩ (.int .i64 o)).setCell ⟨w.heap.size,1,none⟩ (.int .i64 a)).setCell ⟨w.heap.size,2,none⟩ (.int .i64 c)).setCell ⟨w.heap.size,3,none⟩ (.int .i64 n))=wz at J ⊢;have M:wz.cell? ⟨w.heap.size,0,none⟩=some (.int .i64 o):=by simpa using J.rcell 0
 have N:wz.cell? ⟨w.heap.size,1,none⟩=some (.int .i64 a):=by simpa using J.rcell 1
 have O:wz.cell? ⟨w.heap.size,2,none⟩=some (.int .i64 c):=by simpa using J.rcell 2
 have P:wz.cell? ⟨w.heap.size,3,none⟩=some (.int .i64 n):=by simpa using J.rcell 3
 refine bodyPost_ret (v:= .agg #[.int .i64 o,.int .i64 a,.int .i64 c,.int .i64 n]) ?_ rfl ?_
 ·simp [results,Tryz.results186,go_sem,M,N,O,P]
 ·refine Or.inr ⟨⟨o,a,c,n⟩,_,_,V,?_,rfl,rfl,J.rd,rfl⟩;unfold rdIns;rw [z.out];simp only;rw [B.out];simp only;rw [D.out];simp only;rw [F.out]
def verA(v:Int × Int × Int):Value:= .agg #[.int .i64 v.1,.int .i64 v.2.1,.int .i64 v.2.2]
theorem Cj(W w:World)(b k:Nat)(s:ByteArray)(h:RdS W w b s k)(u:s.size<=9223372036854775806):
  Calls Tryz.prog 139 #[pt b] w (Rd W b s (fun _ x v=>v=verA x) (rdVer ((byt s).drop k))):=by
 have A:=ij h;have L:pt b= .pointer (some ⟨b,0,none⟩):=rfl;rw [L]at*;clear h;go_enter Tryz.func139,Tryz.ntmps139
 go_wp2_with fail
 have l:=InS.start (T:=26) A.out #[.int .i64 0,.int .i64 0,.int .i64 0] #[.int .i64 0,.int .i64 0,.int .i64 0];generalize (w.alloc (.cells #[.int .i64 0,.int .i64 0,.int .i64 0] 26)).alloc (.cells #[.int .i64 0,.int .i64 0,.int .i64 0] 26)=w1 at l ⊢;refine(kP w1 w1 b k s l.rd.self u).mono ?_;rintro e x1 (⟨d,rfl,j⟩ | ⟨o,r,v,k1,d,rfl,rfl,i,rfl⟩)
 ·have q:Hid (rdVer ((byt s).drop k)=none):=by unfold Hid rdVer;rw [d]
  have p:=ij (il l.rd.base j);clear d j l;go_wp2_with fail
  exact⟨rfl,Or.inl ⟨q.out,rfl,p.out⟩⟩
 have t:=ij d;have I:=l.call i;have f:=ij I;have c1:x1.cell? ⟨w.heap.size+1,0,none⟩=some (.int .i64 0):=by simpa using I.cell 0
 have f1:=I.free 0;clear l I i d;go_wp2_with fail
 have m:=f.out.set 0 (.int .i64 o);generalize x1.setCell ⟨w.heap.size+1,0,none⟩ (.int .i64 o)=y1 at m ⊢;clear f c1 f1;refine(kP y1 y1 b k1 s m.rd.self u).mono ?_;rintro e x2 (⟨d,rfl,j⟩ | ⟨a,r,v,k2,d,rfl,rfl,i,rfl⟩)
 ·have q:Hid (rdVer ((byt s).drop k)=none):=by unfold Hid rdVer;rw [t.out];simp only;rw [d]
  have p:=ij (il m.rd.base j);clear d j m;go_wp2_with fail
  exact⟨rfl,Or.inl ⟨q.out,rfl,p.out⟩⟩
 have z:=ij d;have I:=m.call i;have f:=ij I;have c1:x2.cell? ⟨w.heap.size+1,1,none⟩=some (.int .i64 0):=by simpa using I.cell 1
 have f1:=I.free 1;clear m I i d;go_wp2_with fail
 have n:=f.out.set 1 (.int .i64 a);generalize x2.setCell ⟨w.heap.size+1,1,none⟩ (.int .i64 a)=y2 at n ⊢;clear f c1 f1;refine(kP y2 y2 b k2 s n.rd.self u).mono ?_;rintro e x3 (⟨d,rfl,j⟩ | ⟨c,r,v,M,d,rfl,rfl,i,rfl⟩)
 ·have q:Hid (rdVer ((byt s).drop k)=none):=by unfold Hid rdVer;rw [t.out];simp only;rw [z.out];simp only;rw [d]
  have p:=ij (il n.rd.base j);clear d j n;go_wp2_with fail
  exact⟨rfl,Or.inl ⟨q.out,rfl,p.out⟩⟩
 have B:=ij d;have I:=n.call i;have f:=ij I;have c1:x3.cell? ⟨w.heap.size+1,2,none⟩=some (.int .i64 0):=by simpa using I.cell 2
 have f1:=I.free 2;clear n I i d;have I:=f.out.set 2 (.int .i64 c);have C:(x3.setCell ⟨w.heap.size+1,2,none⟩ (.int .i64 c)).cell? ⟨w.heap.size+1,0,none⟩=some (.int .i64 o):=by simpa using I.cell 0
 have K:x3.frozen? ⟨w.heap.size,0,none⟩=false:=f.out.rfree 0;have N:(x3.setCell ⟨w.heap.size+1,2,none⟩ (.int .i64 c)).cell? ⟨w.heap.size,0,none⟩=some (.int .i64 0):=by simpa using I.rcell 0
 have D:(x3.setCell ⟨w.heap.size+1,2,none⟩ (.int .i64 c)).cell? ⟨w.heap.size+1,1,none⟩=some (.int .i64 a):=by simpa using I.cell 1
 have g1:x3.frozen? ⟨w.heap.size,1,none⟩=false:=f.out.rfree 1;have r:(x3.setCell ⟨w.heap.size+1,2,none⟩ (.int .i64 c)).cell? ⟨w.heap.size,1,none⟩=some (.int .i64 0):=by simpa using I.rcell 1
 have E:(x3.setCell ⟨w.heap.size+1,2,none⟩ (.int .i64 c)).cell? ⟨w.heap.size+1,2,none⟩=some (.int .i64 c):=by simpa using I.cell 2
 have g2:x3.frozen? ⟨w.heap.size,2,none⟩=false:=f.out.rfree 2;have O:(x3.setCell ⟨w.heap.size+1,2,none⟩ (.int .i64 c)).cell? ⟨w.heap.size,2,none⟩=some (.int .i64 0):=by simpa using I.rcell 2
 have y:=ij I;clear I;go_wp2_with fail
 have J:=(((y.out.rset 0 (.int .i64 o)).rset 1 (.int .i64 a)).rset 2 (.int .i64 c));clear c1 f1 f y C K N D g1 r E g2 O;generalize ((((x3.setCell ⟨w.heap.size+1,2,none⟩ (.int .i64 c)).setCell ⟨w.heap.size,0,none⟩ (.int .i64 o)).setCell ⟨w.heap.size,1,none⟩ (.int .i64 a)).setCell ⟨w.heap.size,2,none⟩ (.int .i64 c))=wz at J ⊢;have F:wz.cell? ⟨w.heap.size,0,none⟩=some (.int .i64 o):=by simpa using J.rcell 0
 have G:wz.cell? ⟨w.heap.size,1,none⟩=some (.int .i64 a):=by simpa using J.rcell 1
 have H:wz.cell? ⟨w.heap.size,2,none⟩=some (.int .i64 c):=by simpa using J.rcell 2
 refine bodyPost_ret (v:= .agg #[.int .i64 o,.int .i64 a,.int .i64 c]) ?_ rfl ?_
 ·simp [results,Tryz.results139,go_sem,F,G,H]
 ·refine Or.inr ⟨(o,a,c),_,_,M,?_,rfl,rfl,J.rd,rfl⟩;unfold rdVer;rw [t.out];simp only;rw [z.out];simp only;rw [B.out]
def rdRun(room:Int)(l:List Nat):Option ((Int × Int) × List Nat):=match rdWhole l with
 | none=>none
 | some (t,r)=>match rdMost room r with
  | none=>none
  | some (c,r')=>if 0<c then some ((t,c),r') else none
def runA(x:Int × Int):Value:= .agg #[.int .i64 x.1,.int .i64 x.2]
theorem Ch(W w:World)(b k:Nat)(s:ByteArray)(m:Int)(h:RdS W w b s k)(y:s.size<=9223372036854775806):
  Calls Tryz.prog 174 #[pt b,.int .i64 m] w (Rd W b s (fun _ x v=>v=runA x) (rdRun m ((byt s).drop k))):=by
 have z:=ij h;have F:pt b= .pointer (some ⟨b,0,none⟩):=rfl;rw [F]at*;clear h;go_enter Tryz.func174,Tryz.ntmps174
 go_wp2_with fail
 have f:=InS.start (T:=187) z.out #[.int .i64 0,.int .i64 0] #[.int .i64 0,.int .i64 0];generalize (w.alloc (.cells #[.int .i64 0,.int .i64 0] 187)).alloc (.cells #[.int .i64 0,.int .i64 0] 187)=w1 at f ⊢;refine(kP w1 w1 b k s f.rd.self y).mono ?_;rintro e x1 (⟨a,rfl,l⟩ | ⟨t,r,v,k1,a,rfl,rfl,j,rfl⟩)
 ·have p:Hid (rdRun m ((byt s).drop k)=none):=by unfold Hid rdRun;rw [a]
  have n:=ij (il f.rd.base l);clear a l f;go_wp2_with fail
  exact⟨rfl,Or.inl ⟨p.out,rfl,n.out⟩⟩
 have q:=ij a;have I:=f.call j;have d:=ij I;have c1:x1.cell? ⟨w.heap.size+1,0,none⟩=some (.int .i64 0):=by simpa using I.cell 0
 have f1:=I.free 0;clear f I j a;go_wp2_with fail
 have i:=d.out.set 0 (.int .i64 t);generalize x1.setCell ⟨w.heap.size+1,0,none⟩ (.int .i64 t)=y1 at i ⊢;clear d c1 f1;refine(ru y1 y1 b k1 s i.rd.self y m).mono ?_;rintro e x2 (⟨a,rfl,l⟩ | ⟨c,r,v,k2,a,rfl,rfl,j,rfl⟩)
 ·have p:Hid (rdRun m ((byt s).drop k)=none):=by unfold Hid rdRun;rw [q.out];simp only;rw [a]
  have n:=ij (il i.rd.base l);clear a l i;go_wp2_with fail
  exact⟨rfl,Or.inl ⟨p.out,rfl,n.out⟩⟩
 have u:=ij a;have I:=i.call j;have d:=ij I;have c1:x2.cell? ⟨w.heap.size+1,1,none⟩=some (.int .i64 0):=by simpa using I.cell 1
 have f1:=I.free 1;clear i I j a;have I:=d.out.set 1 (.int .i64 c);have A:(x2.setCell ⟨w.heap.size+1,1,none⟩ (.int .i64 c)).cell? ⟨w.heap.size+1,0,none⟩=some (.int .i64 t):=by simpa using I.cell 0
 have B:(x2.setCell ⟨w.heap.size+1,1,none⟩ (.int .i64 c)).cell? ⟨w.heap.size+1,1,none⟩=some (.int .i64 c):=by simpa using I.cell 1
 have E:x2.frozen? ⟨w.heap.size,0,none⟩=false:=d.out.rfree 0;have g1:x2.frozen? ⟨w.heap.size,1,none⟩=false:=d.out.rfree 1;have G:(x2.setCell ⟨w.heap.size+1,1,none⟩ (.int .i64 c)).cell? ⟨w.heap.size,0,none⟩=some (.int .i64 0):=by simpa using I.rcell 0
 have r:(x2.setCell ⟨w.heap.size+1,1,none⟩ (.int .i64 c)).cell? ⟨w.heap.size,1,none⟩=some (.int .i64 0):=by simpa using I.rcell 1
 have o:=ij I;clear I;by_cases hc:0<c
 ·go_wp2_with (go_at_call 141;refine(jd _).mono ?_;rintro e H ⟨⟨v7,rfl⟩,rfl⟩)
  have J:=(o.out.rset 0 (.int .i64 t)).rset 1 (.int .i64 c);clear c1 f1 d o A B E g1 G r;generalize (((x2.setCell ⟨w.heap.size+1,1,none⟩ (.int .i64 c)).setCell ⟨w.heap.size,0,none⟩ (.int .i64 t)).setCell ⟨w.heap.size,1,none⟩ (.int .i64 c))=wz at J ⊢;have C:wz.cell? ⟨w.heap.size,0,none⟩=some (.int .i64 t):=by simpa using J.rcell 0
  have D:wz.cell? ⟨w.heap.size,1,none⟩=some (.int .i64 c):=by simpa using J.rcell 1
  refine bodyPost_ret (v:= .agg #[.int .i64 t,.int .i64 c]) ?_ rfl ?_
  ·simp [results,Tryz.results174,go_sem,C,D]
  ·refine Or.inr ⟨(t,c),_,_,k2,?_,rfl,rfl,J.rd,rfl⟩;unfold rdRun;rw [q.out];simp only;rw [u.out];simp only;rw [if_pos hc]
 ·have qd:decide (0<c)=false:=by simp;omega
  go_wp2_with (go_at_call 141;refine(i7 _).mono ?_;rintro e H ⟨rfl,rfl⟩)
  refine⟨rfl,Or.inl ⟨?_,rfl,o.out.rd.base⟩⟩;unfold rdRun;rw [q.out];simp only;rw [u.out];simp only;rw [if_neg (by omega)]
def conts{α:Type}(c:List α)(res:Option (List α × List Nat)):Option (List α × List Nat):=match res with
 | some (xs,r)=>some (c++xs,r)
 | none=>none
theorem pS{α:Type}(a:Option (List α × List Nat)):conts [] a=a:=by
 unfold conts;cases a with
 | none=>rfl
 | some x=>rfl
theorem oA{α:Type}(P:List Nat->Option (α × List Nat))(c:List α)(l:List Nat):conts c (rdMany P 0 l)=some (c,l):=by simp [conts,rdMany]
theorem oz{α:Type}{P:List Nat->Option (α × List Nat)}{l r:List Nat}{x:α}(h:P l=some (x,r))(c:List α)(m:Nat):conts c (rdMany P (m+1) l)=conts (c++[x]) (rdMany P m r):=by
 rw [rdMany,h];simp only;cases rdMany P m r with
 | none=>rfl
 | some y=>simp [conts]
theorem oy{α:Type}{P:List Nat->Option (α × List Nat)}{l:List Nat}(h:P l=none)(c:List α)(m:Nat):conts c (rdMany P (m+1) l)=none:=by rw [rdMany,h];rfl
theorem rz{w w':World}{base:Nat}{e:TypeId}{size:Nat}{v:Value}{n b:Nat}{xs:List Value}(h:w.ownsRow base e size v n xs)(hg:w.grownBy w' (some b))(hb:b<base):w'.ownsRow base e size v n xs:=
 iC h hg (fun k e=>by simp only [Option.some.injEq]at e;omega)
theorem lH{l r:List Nat}{x:Int}(h:rdWhole l=some (x,r)):0<=x:=by
 unfold rdWhole at h;split at h
 ·split at h
  ·simp only [Option.some.injEq,Prod.mk.injEq]at h;omega
  ·cases h
 ·cases h
theorem kw{b x:Int}{l r:List Nat}(h:rdMost b l=some (x,r)):0<=x/\x<=b:=by
 unfold rdMost at h;split at h
 ·rename_i hw
  split at h
  ·simp only [Option.some.injEq,Prod.mk.injEq]at h;have:=lH hw;omega
  ·cases h
 ·cases h
theorem zu(W w:World)(b k:Nat)(s:ByteArray)(h:RdS W w b s k)(Q:s.size<=9223372036854775806):
  Calls Tryz.prog 173 #[pt b] w (Rd W b s (fun w' c v=>c.length<=16/\CodeRow w.heap.size w'.heap.size w' v c) (rdThread ((byt s).drop k))):=by
 obtain⟨i0,ab,af,ag,ah⟩:=info_parts su;have K:=ij (ru w w b k s h.self Q 16);have C:=ij h;have aa:=h.lt;have ad:pt b= .pointer (some ⟨b,0,none⟩):=rfl;rw [ad]at*;clear h;go_enter Tryz.func173,Tryz.ntmps173
 go_wp2_with fail
 refine K.out.mono ?_;rintro e w1 (⟨d,rfl,p⟩ | ⟨n,r1,v,k1,d,rfl,rfl,f,rfl⟩)
 ·have E:Hid (rdThread ((byt s).drop k)=none):=by unfold Hid rdThread;rw [d]
  have B:=ij (il C.out.base p);clear d p;go_wp2_with fail
  exact⟨rfl,Or.inl ⟨E.out,rfl,B.out⟩⟩
 obtain⟨N,h16⟩:=kw d;obtain⟨m,rfl⟩:=Int.eq_ofNat_of_zero_le N;have E:Hid (rdThread ((byt s).drop k)=rdMany rdIns m ((byt s).drop k1)):=by unfold Hid rdThread;rw [d];rfl
 have T:=ij f;clear d f N K;go_wp2_with fail
 go_loopw [3,6] (fun lv i w'=>∃ (j:Nat) (c:List Ins) (l:Nat),j<=m/\i= .int .i64 j/\Hid (c.length=j)/\Hid (RdS w w' b s l)/\Hid (w'.ownsRow w.heap.size 65 4 lv c.length (insCells c))/\Hid (conts c (rdMany rdIns (m - j) ((byt s).drop l))=rdThread ((byt s).drop k))) (fun _ i _=>m - (intOf i).toNat)
 case atStart=>exact⟨0,[],k1,Nat.zero_le _,rfl,ij rfl,T,ij ⟨rfl,Or.inl ⟨rfl,rfl⟩⟩,ij (by rw [E.out,pS];rfl)⟩
 case round=>
  obtain⟨j,c,l,hj,rfl,z,o,D,A⟩:=hrel;obtain⟨r,I⟩:∃ r,r=wr:=⟨_,rfl⟩;subst I;have I:w.heap.size<=r.heap.size:=o.out.base.size;by_cases hjm:j<m
  ·have q1:(j:Int)<m:=by omega
   have J:=ij (Cd r r b l s o.out.self Q);have y:m - j=(m - (j+1))+1:=by omega
   go_wp2_with fail
   refine J.out.mono ?_;rintro e w6 (⟨d,rfl,p⟩ | ⟨x,r1,v,k2,d,rfl,rfl,f,rfl⟩)
   ·have F:Hid (rdThread ((byt s).drop k)=none):=by unfold Hid;rw [<-A.out,y,oy d]
    have B:=ij (il C.out.base (il o.out.base p));clear d p y;go_wp2_with fail
    exact⟨rfl,Or.inl ⟨F.out,rfl,B.out⟩⟩
   have S:Hid (conts (c++[x]) (rdMany rdIns (m - (j+1)) ((byt s).drop k2))=rdThread ((byt s).drop k)):=by unfold Hid;rw [<-A.out,y,oz d]
   have U:=ij f;have u:=ij (rz D.out f.base aa);have hw6:w.heap.size<=w6.heap.size:=Nat.le_trans I f.base.size;obtain⟨x1,x2,x3,rfl⟩:=iw u.out;have ae:=iB u.out;subst ae;have hcl:c.length<=16:=by have:=z.out;omega
   have Y:c.length+1<=maxLen:=by unfold maxLen;omega
   clear d f y J;unfold insA;go_wp2_with (at_builtin;go_must (refine wpList_append_lies _ rfl _ _ _ rfl w.heap.size 65 i0 _ 4 32 Tryz.underlying66 ab af ag ah rfl (by omega) (.slice x1 c.length x3) c.length (insCells c) rfl (iG u.out) ⟨w6.heap.size,0,none⟩ 1 1 (insV x) rfl rfl (World.news_of_block (cs:= #[.int .i64 x.op,.int .i64 x.a,.int .i64 x.b,.int .i64 x.n]) (t:=65) (fr:=(0,0)) (heap_alloc_new w6 _)) (yp x) (by omega) Y (by omega) (by simp;omega) (w6.heap.size+1) (by simp) ?_);intro g6 V R P H Z ac)
   have L:Hid (RdS w R b s k2/\R.ownsRow w.heap.size 65 4 (.slice (some ⟨g6,0,none⟩) (c.length+1) V) (c++[x]).length (insCells (c++[x]))):=by
    have O:=iA u.out;have G:=(o.out.trans U.out);refine⟨⟨?_,?_,G.le⟩,?_⟩
    ·rw [H.block b (by simp;omega) (fun e=>by have:=O b e.symm;omega),Below.heap_alloc _ _ _ (by omega)];exact G.blk
    ·exact iZ (iq G.base) H (fun q e=>O q e)
    ·rw [ma];simpa using P
   clear P H Z ac;go_wp2_with fail
   go_roundw
   case rel=>exact⟨j+1,c++[x],k2,by omega,by first | rfl | go_num,ij (by simpa using z.out),ij L.out.1,ij L.out.2,S⟩
   case measure=>simp [intOf];omega
  ·have q1:¬(j:Int)<m:=by omega
   have M:m - j=0:=by omega
   have F:Hid (rdThread ((byt s).drop k)=some (c,(byt s).drop l)):=by unfold Hid;rw [<-A.out,M,oA]
   have X:Hid (c.length<=16):=by unfold Hid;have:=z.out;omega
   clear M;go_wp2_with fail
   go_ret;exact Or.inr ⟨c,_,_,l,F.out,rfl,⟨X.out,D.out,rx D.out⟩,C.out.trans o.out,rfl⟩
theorem wJ(W w:World)(b k:Nat)(s:ByteArray)(h:RdS W w b s k)(hs:s.size<=9223372036854775806):
  Calls Tryz.prog 137 #[pt b] w (Rd W b s (fun w' p v=>p.length<=4/\∃ tv,v= .agg #[tv]/\ThrAt (w.heap.size+2) w'.heap.size w' tv p) (rdProg ((byt s).drop k))):=by
 obtain⟨i1,aL,aQ,aR,aS⟩:=info_parts wh;have K:=ij h;have hbw:=h.lt;have aN:pt b= .pointer (some ⟨b,0,none⟩):=rfl;rw [aN]at*;clear h;go_enter Tryz.func137,Tryz.ntmps137
 go_wp2_with fail
 have C:=InS.start (T:=37) K.out.self #[.slice none 0 0] #[.slice none 0 0];generalize aw:(w.alloc (.cells #[.slice none 0 0] 37)).alloc (.cells #[.slice none 0 0] 37)=w1 at C ⊢;have aT:w.heap.size+2<=w1.heap.size:=by rw [<-aw];simp
 clear aw;refine(ru w1 w1 b k s C.rd.self hs 4).mono ?_;rintro e w2 (⟨l,rfl,F⟩ | ⟨n,r1,v,k1,l,rfl,rfl,z,rfl⟩)
 ·have Y:Hid (rdProg ((byt s).drop k)=none):=by unfold Hid rdProg;rw [l]
  have V:=ij (il K.out.base (il C.rd.base F));clear l F C;go_wp2_with fail
  exact⟨rfl,Or.inl ⟨Y.out,rfl,V.out⟩⟩
 obtain⟨h0,h4⟩:=kw l;obtain⟨m,rfl⟩:=Int.eq_ofNat_of_zero_le h0;have Y:Hid (rdProg ((byt s).drop k)=rdMany rdThread m ((byt s).drop k1)):=by unfold Hid rdProg;rw [l];rfl
 have HI:=ij (C.call z);have aU:w.heap.size+2<=w2.heap.size:=Nat.le_trans aT z.base.size;clear l z h0 C;go_wp2_with fail
 go_loopw [6] (fun i w'=>∃ (j:Nat) (p:List (List Ins)) (tv:Value) (D:Nat),j<=m/\i= .int .i64 j/\Hid (p.length=j)/\Hid (InS w w' b s D 37 (w.heap.size+1) w.heap.size #[tv] #[.slice none 0 0])/\Hid (ThrAt (w.heap.size+2) w'.heap.size w' tv p)/\w.heap.size+2<=w'.heap.size/\Hid (conts p (rdMany rdThread (m - j) ((byt s).drop D))=rdProg ((byt s).drop k))) (fun i _=>m - (intOf i).toNat)
 case atStart=>exact⟨0,[],.slice none 0 0,k1,Nat.zero_le _,rfl,ij rfl,HI,ij ⟨[],⟨rfl,Or.inl ⟨rfl,rfl⟩⟩,fun h e=>(by cases e),fun j hj=>(by simp at hj),Apt.nil⟩,aU,ij (by rw [Y.out,pS];rfl)⟩
 case round=>
  obtain⟨j,p,tv,D,hj,rfl,R,f,B,ax,U⟩:=hrel;obtain⟨d,ay⟩:∃ d,d=wr:=⟨_,rfl⟩;rw [<-ay]at f B ax ⊢;clear ay;by_cases hjm:j<m
  ·have q1:(j:Int)<m:=by omega
   have O:m - j=(m - (j+1))+1:=by omega
   have HT:=ij (zu d.drew d.drew b D s (f.out.rd.grown (iy (ir _ _))).self hs);have cq:d.cell? ⟨w.heap.size+1,0,none⟩=some tv:=by simpa using f.out.cell 0
   go_wp2_with fail
   refine iz (fun u=>u.cell? ⟨w.heap.size+1,0,none⟩=some tv) 7 (by kernel_rfl) (by kernel_rfl) ?_ ?_
   ·simp [go_sem,cq]
   intro hHeld;refine ie 0 ?v0 rfl (by kernel_rfl) (fun _ _ _ h=>h) (by rfl) ?y0 (by assumption) ?_
   case y0=>(intro u hu;go_simp;try rfl)
   simp only [Act.put,List.setIfInBounds_toArray];refine ie 1 ?v1 rfl (by kernel_rfl) (fun _ _ _ h=>h) (by rfl) ?y1 (by assumption) ?_
   case y1=>(intro u hu;go_simp;try rfl)
   simp only [Act.put];refine ie 2 ?v2 rfl (by kernel_rfl) (fun _ _ _ h=>h) (by rfl) ?y2 (by assumption) ?_
   case y2=>(intro u hu;go_simp;try rfl)
   simp only [Act.put];refine iu (i:=3) rfl (by kernel_rfl) (by kernel_rfl) (by rfl) ?_;intro K3 am;have af:=ij am;clear am;go_simp;refine HT.out.mono ?_;rintro e w6 (⟨l,rfl,F⟩ | ⟨x,r1,v,k2,l,rfl,Q,z,rfl⟩)
   ·have Z:Hid (rdProg ((byt s).drop k)=none):=by unfold Hid;rw [<-U.out,O,oy l]
    have V:=ij (il K.out.base (il f.out.rd.base (il (iy (ir _ _)) F)));clear l F O;exact⟨rfl,Or.inl ⟨Z.out,rfl,V.out⟩⟩
   have aA:Hid (conts (p++[x]) (rdMany rdThread (m - (j+1)) ((byt s).drop k2))=rdProg ((byt s).drop k)):=by unfold Hid;rw [<-U.out,O,oz l]
   have aq:w.heap.size+2<=d.drew.heap.size:=ax;have ab:d.grownBy w6 (some b):=il (iy (ir _ _)) z.base;have hw6:w.heap.size+2<=w6.heap.size:=Nat.le_trans aq z.base.size;have X:=ij (f.out.call (RdS.trans (f.out.rd.self.grown (iy (ir _ _))) z));have M:Hid (ThrAt (w.heap.size+2) d.heap.size w6 tv p):=B.out.step ab (fun q e=>by simp only [Option.some.injEq]at e;omega);have az:Hid (d.heap.size<=w6.heap.size):=ab.size;have aD:Hid (∀ q,v.ownBlock=some q->d.heap.size<=q):=fun q e=>iA Q.2.1 q e
   have S:Hid (CodeRow (w.heap.size+2) w6.heap.size w6 v x):=⟨iK Q.2.1 aq,Q.2.2⟩;obtain⟨v1,v2,v3,rfl⟩:=iw S.out.1;obtain⟨a,r,c,rfl⟩:=iw M.out.choose_spec.1;obtain⟨rows,E⟩:∃ rows,Hid (w6.ownsRow (w.heap.size+2) 66 1 (.slice a r c) p.length rows):=⟨_,M.out.choose_spec.1⟩;have aO:=iB E.out;subst aO;have hpl:p.length<=4:=by have:=R.out;omega
   have ap:w6.cell? ⟨w.heap.size+1,0,none⟩=some (.slice a p.length c):=by simpa using X.out.cell 0
   clear l z ab O HT Q B f;refine af.out _ _ ap ?_;clear af;try simp only [Act.put,List.setIfInBounds_toArray]
   refine iu (i:=4) rfl (by kernel_rfl) (by kernel_rfl) (by rfl) ?_;intro K4 an;have ag:=ij an;clear an;go_simp;have G:w6.grownBy (w6.alloc (.cells #[.slice v1 v2 v3] 66)) none:=iq (ir _ _);refine ag.out _ _ (ip G _ _ ap) ?_;clear ag;have aH:p.length+1<=maxLen:=by unfold maxLen;omega
   have aK:(p.length+1)*24<=140737488355328:=by omega
   refine iu (i:=5) rfl (by kernel_rfl) (by kernel_rfl) (by rfl) ?_;intro K5 ao;have ah:=ij ao;clear ao;refine wp_append_lies _ (.tmp 9) (.tmp 12) 35 (by rfl) (w.heap.size+2) 66 i1 _ 1 24 Tryz.underlying35 aL aQ aR aS rfl (by omega) (.slice a p.length c) p.length rows (by rfl) (iG E.out) ⟨w6.heap.size,0,none⟩ 1 1 [.slice v1 v2 v3] (by rfl) (by rfl) (World.news_of_block (cs:= #[.slice v1 v2 v3]) (t:=66) (fr:=(0,0)) (heap_alloc_new w6 _)) (by simp [Value.oneCell']) (by omega) aH aK (by simp;omega) (w6.heap.size+1) (by simp) ?_;intro g2 A y ac H aJ aM;have au:∀ q,(Value.slice a p.length c).ownBlock=some q->w.heap.size+2<=q:=fun q e=>iA E.out q e
   have P:∀ q,q<w.heap.size+2->y.heap[q]?=w6.heap[q]?:=fun q hq=>by
    rw [H.block q (by simp;omega) (fun e=>by have:=au q e.symm;omega),G.block q (by omega) (by simp)]
   have L:Hid (InS w y b s k2 37 (w.heap.size+1) w.heap.size #[.slice a p.length c] #[.slice none 0 0]):=by
    have I:=X.out;exact⟨⟨by rw [P _ (by omega)];exact I.rd.blk,iZ (il I.rd.base (jN G)) H (fun q e=>by have:=au q e;omega),I.rd.le⟩,by rw [P _ (by omega)];exact I.var,by rw [P _ (by omega)];exact I.res,I.cb,I.db,I.cd,I.lc,I.ld⟩
   have aI:y.cell? ⟨w.heap.size+1,0,none⟩=some (.slice a p.length c):=by simpa using L.out.cell 0
   have hsz7:w6.heap.size+1<=y.heap.size:=by have:=H.size;simpa using this
   have aj:Hid (ThrAt (w.heap.size+2) y.heap.size y (.slice (some ⟨g2,0,none⟩) (p.length+1) A) (p++[x])):=
    ThrAt.snoc M.out az.out aD.out E.out S.out G H ac (by omega) (rx ac)
   clear ac H aJ aM P G M E S X;refine ah.out _ _ aI ?_;clear ah;try simp only [Act.put,List.setIfInBounds_toArray]
   refine ie 6 ?v6 rfl (by kernel_rfl) (fun _ _ _ h=>h) (by rfl) ?y6 (by assumption) ?_
   case y6=>(intro u hu;go_simp;try rfl)
   simp only [Act.put];refine iF rfl (by kernel_rfl) (by kernel_rfl) (by rfl) ?_;have s7f:y.frozen? ⟨w.heap.size+1,0,none⟩=false:=L.out.free 0;have aC:=ij (L.out.set 0 (.slice (some ⟨g2,0,none⟩) (p.length+1) A));have N:Hid (ThrAt (w.heap.size+2) (y.setCell ⟨w.heap.size+1,0,none⟩ (.slice (some ⟨g2,0,none⟩) (p.length+1) A)).heap.size (y.setCell ⟨w.heap.size+1,0,none⟩ (.slice (some ⟨g2,0,none⟩) (p.length+1) A)) (.slice (some ⟨g2,0,none⟩) (p.length+1) A) (p++[x])):=by
    have:=aj.out.step (iM (w:=y) (b:=w.heap.size+1) (o:=0) (v:= .slice (some ⟨g2,0,none⟩) (p.length+1) A)) (fun q e=>by simp only [Option.some.injEq]at e;omega);exact this.mono (by simp)
   have aP:w.heap.size+2<=(y.setCell ⟨w.heap.size+1,0,none⟩ (.slice (some ⟨g2,0,none⟩) (p.length+1) A)).heap.size:=by simp;omega
   clear L aj;go_simp;go_wp2
   go_roundw
   case rel=>exact⟨j+1,p++[x],_,k2,by omega,by first | rfl | go_num,ij (by simpa using R.out),aC,N,aP,aA⟩
   case measure=>simp [intOf];omega
  ·have q1:¬(j:Int)<m:=by omega
   have ej:m - j=0:=by omega
   have Z:Hid (rdProg ((byt s).drop k)=some (p,(byt s).drop D)):=by unfold Hid;rw [<-U.out,ej,oA]
   have aG:Hid (p.length<=4):=by unfold Hid;have:=R.out;omega
   obtain⟨a,r,c,rfl⟩:=iw B.out.choose_spec.1;have cq:d.cell? ⟨w.heap.size+1,0,none⟩=some (.slice a r c):=by simpa using f.out.cell 0
   have cr:d.cell? ⟨w.heap.size,0,none⟩=some (.slice none 0 0):=by simpa using f.out.rcell 0
   have fr:=f.out.rfree 0;clear ej;go_wp2_with fail
   have J:=f.out.rset 0 (.slice a r c);have N:ThrAt (w.heap.size+2) (d.setCell ⟨w.heap.size,0,none⟩ (.slice a r c)).heap.size (d.setCell ⟨w.heap.size,0,none⟩ (.slice a r c)) (.slice a r c) p:=by
    have:=B.out.step (iM (w:=d) (b:=w.heap.size) (o:=0) (v:= .slice a r c)) (fun q e=>by simp only [Option.some.injEq]at e;omega);exact this.mono (by simp)
   clear cq cr fr f B;generalize d.setCell ⟨w.heap.size,0,none⟩ (.slice a r c)=wz at J N ⊢;have e0:wz.cell? ⟨w.heap.size,0,none⟩=some (.slice a r c):=by simpa using J.rcell 0
   refine bodyPost_ret (v:= .agg #[.slice a r c]) ?_ rfl ?_
   ·simp [results,Tryz.results137,go_sem,e0]
   ·exact Or.inr ⟨p,_,_,D,Z.out,rfl,⟨aG.out,_,rfl,N⟩,K.out.trans J.rd,rfl⟩
theorem oW(m:Nat)(a:List Int)(l:List Nat):rdRuns (m+1) a l=match rdRun (500 - a.length) l with
  | none=>none
  | some ((t,c),r)=>if a.getLast?≠some t then rdRuns m (a++List.replicate c.toNat t) r else none:=by
 rw [rdRuns,rdRun];cases rdWhole l with
 | none=>rfl
 | some x=>
  obtain⟨t,r⟩:=x;simp only;cases rdMost (500 - a.length) r with
  | none=>rfl
  | some y=>
   obtain⟨c,r'⟩:=y;simp only;by_cases hc:0<c
   ·simp [hc]
   ·simp [hc]
theorem sP{a:Int}{l r:List Nat}{t c:Int}(h:rdRun a l=some ((t,c),r)):0<=t/\t<=9223372036854775807/\0<c/\c<=a:=by
 unfold rdRun at h;split at h
 ·cases h
 ·rename_i t' r' hw
  split at h
  ·cases h
  ·rename_i c' r'' hm
   split at h
   ·simp only [Option.some.injEq,Prod.mk.injEq]at h;obtain⟨⟨rfl,rfl⟩,rfl⟩:=h;have b:=lH hw;have d:=kw hm;have e:t'<=9223372036854775807:=by
     unfold rdWhole at hw;split at hw
     ·split at hw
      ·simp only [Option.some.injEq,Prod.mk.injEq]at hw;omega
      ·cases hw
     ·cases hw
    exact⟨b,e,by assumption,d.2⟩
   ·cases h
structure Box(p:Prop):Prop where
 out:p
section
variable {P : Program} {ops : Array Oper} {w : World} {Q : Act -> Prop} {a : Act} {o : Oper} {rest : List Oper}
theorem xy(b:Region.wanted o (yielded ops a.tmps)=false)(h:Box (wpStill P ops w Q rest (a.put o.dst undef))):Box (wpStill P ops w Q (o::rest) a):=by
 refine⟨?_⟩;unfold wpStill;rw [if_neg (by rw [b];simp)];exact h.out
theorem kj(b:Region.wanted o (yielded ops a.tmps)=true)(h:∀ K:Act->Prop,(∀ a,Box (wpStill P ops w Q rest a)->K a)->o.still P a w K):Box (wpStill P ops w Q (o::rest) a):=by
 refine⟨?_⟩;unfold wpStill;rw [if_pos b];exact h _ (fun _ h=>h.out)
theorem qH(h:Q a):Box (wpStill P ops w Q [] a):=⟨h⟩
theorem me{id:Nat}{Q:Exit->Act->World->Prop}{a:Act}{w:World}{l:List Oper}(n:Nat)(hm:P.follows .mixedOrders=true)(hB:Region.lexTailB .any l.toArray n=true)
  (h:Box (wpStill P l.toArray w.drew (fun a'=>wpList P l.toArray Q (l.drop n) a' w.drew) (l.take n) a)):(Code.region id l.toArray true).wp P Q a w:=wp_region_still_tail n hm hB h.out
end
theorem ux(W w:World)(b k:Nat)(s:ByteArray)(h:RdS W w b s k)(hs:s.size<=9223372036854775806):
  Calls Tryz.prog 138 #[pt b] w (Rd W b s (fun w' l v=>l.length<=500/\w'.ownsRow w.heap.size 3 1 v l.length (ints l)) (rdSched ((byt s).drop k))):=by
 have HM:=ij (ru w w b k s h.self hs 500);have M:=ij h;have aw:=h.lt;have aA:pt b= .pointer (some ⟨b,0,none⟩):=rfl;rw [aA]at*;clear h;go_enter Tryz.func138,Tryz.ntmps138
 go_wp2_with fail
 refine HM.out.mono ?_;rintro e w1 (⟨d,rfl,G⟩ | ⟨n,r1,v,k1,d,rfl,rfl,o,rfl⟩)
 ·have Q:Hid (rdSched ((byt s).drop k)=none):=by unfold Hid rdSched;rw [d]
  have P:=ij (il M.out.base G);clear d G;go_wp2_with fail
  exact⟨rfl,Or.inl ⟨Q.out,rfl,P.out⟩⟩
 obtain⟨h0,h500⟩:=kw d;obtain⟨m,rfl⟩:=Int.eq_ofNat_of_zero_le h0;have Q:Hid (rdSched ((byt s).drop k)=rdRuns m [] ((byt s).drop k1)):=by unfold Hid rdSched;rw [d];rfl
 have HS:=ij o;clear d o h0 HM;go_wp2_with fail
 go_loopw [3,8] (fun lv i w'=>∃ (j:Nat) (l:List Int) (C:Nat),j<=m/\i= .int .i64 j/\l.length<=500/\Hid (j=0↔l=[])/\Hid (RdS w w' b s C)/\Hid (w'.ownsRow w.heap.size 3 1 lv l.length (ints l))/\Hid (rdRuns (m - j) l ((byt s).drop C)=rdSched ((byt s).drop k))) (fun _ i _=>m - (intOf i).toNat)
 case atStart=>exact⟨0,[],k1,Nat.zero_le _,rfl,Nat.zero_le _,ij ⟨fun _=>rfl,fun _=>rfl⟩,HS,ij ⟨rfl,Or.inl ⟨rfl,rfl⟩⟩,ij (by rw [Q.out];rfl)⟩
 case round=>
  obtain⟨j,l,C,hj,rfl,ay,D,f,u,L⟩:=hrel;obtain⟨J,an⟩:∃ J,J=wr:=⟨_,rfl⟩;rw [<-an]at f u ⊢;clear an;have aC:w.heap.size<=J.heap.size:=f.out.base.size;obtain⟨V,s2,X,rfl⟩:=iw u.out;have aB:=iB u.out;subst aB;by_cases hjm:j<m
  ·have q1:(j:Int)<m:=by omega
   have O:m - j=(m - (j+1))+1:=by omega
   have HT:=ij (Ch J J b C s (500 - (l.length:Int)) f.out.self hs);go_wp2_with fail
   refine HT.out.mono ?_;rintro e w6 (⟨d,rfl,G⟩ | ⟨x,r1,v,k2,d,rfl,rfl,o,rfl⟩)
   ·have R:Hid (rdSched ((byt s).drop k)=none):=by unfold Hid;rw [<-L.out,O,oW,d]
    have P:=ij (il M.out.base (il f.out.base G));clear d G O;go_wp2_with fail
    exact⟨rfl,Or.inl ⟨R.out,rfl,P.out⟩⟩
   obtain⟨t,c⟩:=x;obtain⟨t0,t1,c0,c1⟩:=sP d;have r:Hid (rdSched ((byt s).drop k)=if l.getLast?≠some t then rdRuns (m - (j+1)) (l++List.replicate c.toNat t) ((byt s).drop k2) else none):=by unfold Hid;rw [<-L.out,O,oW,d]
   have af:=ij (f.out.trans o);have ae:=ij (rz u.out o.base aw);have hw6:w.heap.size<=w6.heap.size:=Nat.le_trans aC o.base.size;clear d o O HT L f u;obtain⟨a,rfl⟩:=Int.eq_ofNat_of_zero_le (show 0<=c by omega);have ax:a<=501:=by omega
   unfold runA;go_wp2_with fail
   have z:Hid (RdS w (w6.alloc (.cells #[.int .i64 t,.int .i64 (a:Int)] 187)) b s k2):=af.out.grown (iq (ir _ _));have F:Hid ((w6.alloc (.cells #[.int .i64 t,.int .i64 (a:Int)] 187)).ownsRow w.heap.size 3 1 (.slice V l.length X) l.length (ints l)):=iG ae.out;have a0:(w6.alloc (.cells #[.int .i64 t,.int .i64 (a:Int)] 187)).cell? ⟨w6.heap.size,0,none⟩=some (.int .i64 t):=by
    have:=heap_alloc_new w6 (.cells #[.int .i64 t,.int .i64 (a:Int)] 187);simp only [World.cell?,this];rfl
   have a1:(w6.alloc (.cells #[.int .i64 t,.int .i64 (a:Int)] 187)).cell? ⟨w6.heap.size,1,none⟩=some (.int .i64 (a:Int)):=by
    have:=heap_alloc_new w6 (.cells #[.int .i64 t,.int .i64 (a:Int)] 187);simp only [World.cell?,this];rfl
   generalize w6.alloc (.cells #[.int .i64 t,.int .i64 (a:Int)] 187)=wA at z F a0 a1 ⊢;have Y:=ij (rP w wA.drew (some b) (.slice V l.length X) l t a (iC F.out (iy (ir _ none)) (fun _ e=>by cases e)) (iy z.out.base) ax (by omega));have ab:∀ (q:World) (sv:Value),q.ownsRow w.heap.size 3 1 sv (l++List.replicate a t).length (ints (l++List.replicate a t))->w.grownBy q (some b)->wA.drew.grownBy q (Value.slice V l.length X).ownBlock->RdS w q b s k2:=by
    intro q sv h1 h2 h3;refine⟨?_,h2,z.out.le⟩;have az:=iA F.out;rw [h3.block b (by have:=z.out.lt;exact this) (fun e=>by have:=az b e.symm;omega)];exact z.out.blk
   have ad:=ij ab;have al:(l++List.replicate a t).length<=500:=by simp;omega
   have Z:=ij al;have ac:Hid (j+1=0↔l++List.replicate a t=[]):=by
    unfold Hid;refine⟨fun e=>by omega,fun e=>?_⟩;have:=congrArg List.length e;simp at this;omega
   clear ab al af ae;by_cases U:j=0
   ·have qz:((j:Int)==0)=true:=by simp;omega
    have ak:l=[]:=D.out.1 U;have E:Hid (rdRuns (m - (j+1)) (l++List.replicate a t) ((byt s).drop k2)=rdSched ((byt s).drop k)):=by
     unfold Hid;rw [r.out,if_pos (by rw [ak];simp)];rfl
    clear ak U r D;refine me 13 (by kernel_rfl) (by kernel_rfl) ?_;simp only [List.take_succ_cons,List.take_zero,List.drop_succ_cons,List.drop_zero];iterate 3 (refine kj (by rfl) (fun K hK=>?_);go_simp;refine hK _ ?_;clear hK K)
    iterate 9 (refine xy (by rfl) ?_;simp only [Act.put,List.setIfInBounds_toArray,List.set_cons_succ,List.set_cons_zero])
    refine kj (by rfl) (fun K hK=>?_);go_simp;refine hK _ ?_;clear hK K
    refine qH ?_;go_wp2_with (first | (go_at_call 141;refine(jd _).mono ?_;rintro e w7 ⟨⟨v7,rfl⟩,rfl⟩) | (go_at_call 102;refine Y.out.mono ?_;rintro e q ⟨sv,rfl,p,H,I,⟨z1,z2,z3,rfl⟩⟩))
    have S:=ij p;have T:=ij (ad.out _ _ p H I);clear p H I;go_wp2_with fail
    go_roundw
    case rel=>exact⟨j+1,l++List.replicate a t,k2,by omega,by first | rfl | go_num,Z.out,ac,T,S,E⟩
    case measure=>simp [intOf];omega
   ·have qz:((j:Int)==0)=false:=by simp;omega
    have A:l≠[]:=fun e=>U (D.out.2 e)
    have hlp:0<l.length:=List.length_pos_iff.2 A;obtain⟨g,cap,eg,_,_⟩:=F.out.form (by omega);simp only [Value.slice.injEq]at eg;obtain⟨rfl,_,rfl⟩:=eg;have hcell:wA.cell? ⟨g,l.length - 1,none⟩=some (.int .i64 (l.getLast A)):=by
     rw [F.out.cellAt _ (by omega)];have:l.length - 1<l.length:=by omega
     simp [ints,List.getLast_eq_getElem]
    have N:Hid (l.getLast?=some (l.getLast A)):=List.getLast?_eq_some_getLast A;generalize l.getLast A=y at*;have q3:(0:Int)<=(l.length:Int) - 1:=by omega
    have q7:(1:Int)<=(l.length:Int):=by omega
    have q4:(l.length:Int) - 1<l.length:=by omega
    have q5:((l.length:Int) - 1).toNat=l.length - 1:=by omega
    have q6:IntKind.i64.wrap ((l.length:Int) - 1)=(l.length:Int) - 1:=by rw [IntKind.wrap_i64];omega
    clear A;by_cases B:t=y
    ·have qn:(t !=y)=false:=by simp [B]
     have E:Hid (rdSched ((byt s).drop k)=none):=by
      unfold Hid;rw [r.out,N.out,if_neg (by simp [B])]
     clear B r D N;refine me 13 (by kernel_rfl) (by kernel_rfl) ?_;simp only [List.take_succ_cons,List.take_zero,List.drop_succ_cons,List.drop_zero];iterate 3 (refine kj (by rfl) (fun K hK=>?_);go_simp;refine hK _ ?_;clear hK K)
     iterate 9 (refine kj (by rfl) (fun K hK=>?_);go_simp;refine hK _ ?_;clear hK K)
     refine kj (by rfl) (fun K hK=>?_);go_simp;refine hK _ ?_;clear hK K
     refine qH ?_;go_wp2_with (go_at_call 141;refine(i7 _).mono ?_;rintro e w7 ⟨rfl,rfl⟩)
     exact⟨rfl,Or.inl ⟨E.out,rfl,il M.out.base (iy z.out.base)⟩⟩
    ·have qn:(t !=y)=true:=by simp [B]
     have E:Hid (rdRuns (m - (j+1)) (l++List.replicate a t) ((byt s).drop k2)=rdSched ((byt s).drop k)):=by
      unfold Hid;rw [r.out,N.out,if_pos (by simp;exact fun e=>B e.symm)];rfl
     clear B r D N;refine me 13 (by kernel_rfl) (by kernel_rfl) ?_;simp only [List.take_succ_cons,List.take_zero,List.drop_succ_cons,List.drop_zero];iterate 3 (refine kj (by rfl) (fun K hK=>?_);go_simp;refine hK _ ?_;clear hK K)
     iterate 9 (refine kj (by rfl) (fun K hK=>?_);go_simp;refine hK _ ?_;clear hK K)
     refine kj (by rfl) (fun K hK=>?_);go_simp;refine hK _ ?_;clear hK K
     refine qH ?_;go_wp2_with (first | (go_at_call 141;refine(jd _).mono ?_;rintro e w7 ⟨⟨v7,rfl⟩,rfl⟩) | (go_at_call 102;refine Y.out.mono ?_;rintro e q ⟨sv,rfl,p,H,I,⟨z1,z2,z3,rfl⟩⟩))
     have S:=ij p;have T:=ij (ad.out _ _ p H I);clear p H I;go_wp2_with fail
     go_roundw
     case rel=>exact⟨j+1,l++List.replicate a t,k2,by omega,by first | rfl | go_num,Z.out,ac,T,S,E⟩
     case measure=>simp [intOf];omega
  ·have q1:¬(j:Int)<m:=by omega
   have ej:m - j=0:=by omega
   have R:Hid (rdSched ((byt s).drop k)=some (l,(byt s).drop C)):=by unfold Hid;rw [<-L.out,ej,rdRuns]
   clear ej;go_wp2_with fail
   go_ret;exact Or.inr ⟨l,_,_,C,R.out,rfl,⟨ay,u.out⟩,M.out.trans f.out,rfl⟩
theorem zL(c:Nat)(hc:c<4294967296):bits .and .u32 (c:Int) 1=((c % 2:Nat):Int):=by
 have:=u32_and_nat c 1 hc (by decide);rw [nat_mask1]at this;exact this
theorem Bl(c:Nat)(hc:c<4294967296):bits .xor .u32 (c:Int) 3988292384=((c ^^^ 3988292384:Nat):Int):=u32_xor_nat c 3988292384 hc (by decide)
theorem A5(c:Nat)(hc:c<4294967296)(w:World):Calls Tryz.prog 170 #[.int .u32 c] w fun e w'=>e= .returned (.int .u32 (shN c))/\w'=w:=by
 have b:=zL c hc;have f:=Bl (c / 2) (by omega);by_cases h:c % 2=1
 ·have a:Hid (shN c=(c / 2) ^^^ 3988292384):=by unfold Hid shN;rw [if_pos h]
  rw [h]at b;go_enter Tryz.func170,Tryz.ntmps170
  go_wp2_with fail
  go_ret;refine⟨?_,rfl⟩;have e:((c:Int) / 2)=((c / 2:Nat):Int):=by omega
  rw [a.out,e,f];rfl
 ·have a:Hid (shN c=c / 2):=by unfold Hid shN;rw [if_neg h]
  have d:c % 2=0:=by omega
  rw [d]at b;go_enter Tryz.func170,Tryz.ntmps170
  go_wp2_with fail
  go_ret;refine⟨?_,rfl⟩;rw [a.out];have e:((c:Int) / 2)=((c / 2:Nat):Int):=by omega
  rw [e];rfl
theorem pP(s:ByteArray)(w:World)(hs:s.size<=9223372036854775806):Calls Tryz.prog 135 #[.string s] w fun e w'=>e= .returned (.int .u32 (crcN (byt s)))/\Like w' w:=by
 go_enter Tryz.func135,Tryz.ntmps135
 go_wp2_with fail
 go_loopw [3,7] (fun cv i w'=>∃ (k:Nat) (c:Nat),k<=s.size/\cv= .int .u32 c/\i= .int .i64 k/\c<4294967296/\Hid (c=crcF 4294967295 ((byt s).take k))/\Hid (Like w' w)) (fun _ i _=>s.size - (intOf i).toNat)
 case atStart=>exact⟨0,4294967295,Nat.zero_le _,rfl,rfl,by decide,ij rfl,ij (iT _)⟩
 case round=>
  obtain⟨k,c,hk,rfl,rfl,hc,f,hz⟩:=hrel;obtain⟨b,D⟩:∃ b,b=wr:=⟨_,rfl⟩;subst D;by_cases r:k<s.size
  ·have E:(k:Int)<s.size:=by omega
   have hb:=s[k].toNat_lt;have u:=u32_xor_nat c s[k].toNat hc (by omega);have B:c ^^^ s[k].toNat<4294967296:=Nat.xor_lt_two_pow (n:=32) hc (by omega);have HX:Hid (crcF 4294967295 ((byt s).take (k+1))=shK 8 (c ^^^ s[k].toNat)):=by
    unfold Hid;have t:k<(byt s).length:=by rw [iL];exact r
    have p:=jU s k r;rw [List.getElem?_eq_getElem t]at p;rw [<-List.take_append_getElem t,nH,<-f.out,Option.some.inj p];rfl
   generalize c ^^^ s[k].toNat=d at*;clear f;have x:=hz;clear hz;go_wp2_with fail
   go_loopw [3,16] (fun cv i w'=>∃ (j:Nat) (a:Nat),j<=8/\cv= .int .u32 a/\i= .int .i64 j/\a<4294967296/\Hid (a=shK j d)/\Hid (w'=b)) (fun _ i _=>8 - (intOf i).toNat)
   case atStart=>exact⟨0,d,Nat.zero_le _,rfl,rfl,B,ij rfl,ij rfl⟩
   case round=>
    obtain⟨j,a,hj,rfl,rfl,l,m,o⟩:=hrel;rw [o.out];clear o;by_cases hj8:j<8
    ·have F:(j:Int)<8:=by omega
     have y:Hid (shN a=shK (j+1) d):=by
      unfold Hid;rw [m.out,ve];rfl
     have v:=ij (zi l);have A:=ij (A5 a l b);go_wp2_with (go_at_call 170;refine A.out.mono ?_;rintro e w6 ⟨rfl,rfl⟩)
     go_roundw
     case rel=>exact⟨j+1,shN a,by omega,rfl,by first | rfl | (congr 1),v.out,y,by first | exact ij rfl | exact ij trivial⟩
     case measure=>simp [intOf];omega
    ·have F:¬(j:Int)<8:=by omega
     have C:j=8:=by omega
     subst C;go_wp2_with fail
     go_roundw
     case rel=>exact⟨k+1,a,by omega,rfl,by first | rfl | (congr 1),l,ij (by rw [HX.out];exact m.out),x⟩
     case measure=>simp [intOf];omega
  ·have E:¬(k:Int)<s.size:=by omega
   have u:=u32_xor_nat 4294967295 c (by decide) hc;have q:k=s.size:=by omega
   have z:Hid (crcN (byt s)=4294967295 ^^^ c):=by
    unfold Hid crcN;rw [f.out,q,<-iL,List.take_length]
   clear q;go_wp2_with fail
   go_ret;refine⟨?_,hz.out⟩;rw [z.out,<-u];rfl
def rdLit:List Nat->List Nat->Option (Unit × List Nat)
 | [],l=>some ((),l)
 | _::_,[]=>none
 | x::xs,y::l=>if y=x then rdLit xs l else none
theorem oU(xs l r:List Nat):rdLit xs l=some ((),r)↔l=xs++r:=by
 induction xs generalizing l with
 | nil=>simp [rdLit]
 | cons x xs ih=>
  cases l with
  | nil=>simp [rdLit]
  | cons y l=>
   simp only [rdLit];by_cases h:y=x
   ·rw [if_pos h,ih,h];simp
   ·rw [if_neg h];simp [h]
theorem BG(W w:World)(b k:Nat)(s:ByteArray)(h:RdS W w b s k)(A:s.size<=9223372036854775806):
  Calls Tryz.prog 136 #[pt b] w (Rd W b s (fun _ _ _=>True) (rdLit [82,82,1] ((byt s).drop k))):=by
 have I:=ij h;have E:pt b= .pointer (some ⟨b,0,none⟩):=rfl;rw [E];clear h E;go_enter Tryz.func136,Tryz.ntmps136
 go_wp2_with fail
 go_loopw [3] (fun i w'=>∃ (j c:Nat),j<=3/\i= .int .i64 j/\Hid (RdS W w' b s c)/\Hid (rdLit ([82,82,1].drop j) ((byt s).drop c)=rdLit [82,82,1] ((byt s).drop k))) (fun i _=>3 - (intOf i).toNat)
 case atStart=>exact⟨0,k,by omega,rfl,I,ij rfl⟩
 case round=>
  obtain⟨j,c,hj,rfl,t,r⟩:=hrel;obtain⟨z,F⟩:∃ z,z=wr:=⟨_,rfl⟩;rw [<-F]at t ⊢;clear F;have J:j=0\/j=1\/j=2\/j=3:=by omega
  rcases J with rfl | rfl | rfl | rfl
  ·have HX:Hid (([82,82,1]:List Nat).drop 0=82::[82,82,1].drop 1):=rfl;have G:(({ data:= #[82,82,1]}:ByteArray)[0]).toNat=82:=rfl;by_cases q:c<s.size
   ·have HB:=ij (jA s c q);have n:=ij (kM W z.drew b c s (t.out.grown (iy (ir _ _))) A q);generalize s[c].toNat=y at*;by_cases o:y=82
    ·have C:((y:Int)==82)=true:=by simp;omega
     have m:Hid (rdLit (([82,82,1]).drop (1)) ((byt s).drop (c+1))=rdLit ([82,82,1]) ((byt s).drop k)):=by
      unfold Hid;rw [<-r.out,HB.out,HX.out,rdLit,if_pos o]
     clear o;go_wp2_with fail
     refine iz (fun _=>True) 5 (by kernel_rfl) (by kernel_rfl) trivial ?_;intro x;refine ie 0 ?v0_1 rfl (by kernel_rfl) (fun _ _ _ h=>h) (by rfl) ?y0_1 trivial ?_
     case y0_1=>(intro u a;go_simp;try rfl)
     simp only [Act.put,List.setIfInBounds_toArray];refine ie 2 ?v2_2 rfl (by kernel_rfl) (fun _ _ _ h=>h) (by rfl) ?y2_2 trivial ?_
     case y2_2=>(intro u a;go_simp;try rfl)
     simp only [Act.put];refine ie 3 ?v3_3 rfl (by kernel_rfl) (fun _ _ _ h=>h) (by rfl) ?y3_3 trivial ?_
     case y3_3=>(intro u a;go_simp;try rfl)
     simp only [Act.put];refine iu (i:=1) rfl (by kernel_rfl) (by kernel_rfl) (by rfl) ?_;intro v d;have l:=ij d;clear d;go_simp;refine n.out.mono ?_;rintro e w6 ⟨rfl,f⟩;have p:=ij f;clear f;refine l.out _ _ trivial ?_;clear l;try simp only [Act.put,List.setIfInBounds_toArray]
     refine ie 4 ?v4_4 rfl (by kernel_rfl) (fun _ _ _ h=>h) (by rfl) ?y4_4 trivial ?_
     case y4_4=>(intro u a;go_simp;try rfl)
     simp only [Act.put];refine iF rfl (by kernel_rfl) (by kernel_rfl) (by rfl) ?_;go_simp;refine(jd _).mono ?_;rintro e D ⟨⟨H,rfl⟩,rfl⟩;go_wp2_with fail
     go_roundw
     case rel=>exact⟨1,c+1,by omega,by first | rfl | go_num,p,m⟩
     case measure=>simp [intOf]
    ·have C:((y:Int)==82)=false:=by simp;omega
     have m:Hid (rdLit ([82,82,1]) ((byt s).drop k)=none):=by
      unfold Hid;rw [<-r.out,HB.out,HX.out,rdLit,if_neg o]
     clear o;go_wp2_with fail
     refine iz (fun _=>True) 5 (by kernel_rfl) (by kernel_rfl) trivial ?_;intro x;refine ie 0 ?v0_5 rfl (by kernel_rfl) (fun _ _ _ h=>h) (by rfl) ?y0_5 trivial ?_
     case y0_5=>(intro u a;go_simp;try rfl)
     simp only [Act.put,List.setIfInBounds_toArray];refine ie 2 ?v2_6 rfl (by kernel_rfl) (fun _ _ _ h=>h) (by rfl) ?y2_6 trivial ?_
     case y2_6=>(intro u a;go_simp;try rfl)
     simp only [Act.put];refine ie 3 ?v3_7 rfl (by kernel_rfl) (fun _ _ _ h=>h) (by rfl) ?y3_7 trivial ?_
     case y3_7=>(intro u a;go_simp;try rfl)
     simp only [Act.put];refine iu (i:=1) rfl (by kernel_rfl) (by kernel_rfl) (by rfl) ?_;intro v d;have l:=ij d;clear d;go_simp;refine n.out.mono ?_;rintro e w6 ⟨rfl,f⟩;have p:=ij f;clear f;refine l.out _ _ trivial ?_;clear l;try simp only [Act.put,List.setIfInBounds_toArray]
     refine ie 4 ?v4_8 rfl (by kernel_rfl) (fun _ _ _ h=>h) (by rfl) ?y4_8 trivial ?_
     case y4_8=>(intro u a;go_simp;try rfl)
     simp only [Act.put];refine iF rfl (by kernel_rfl) (by kernel_rfl) (by rfl) ?_;go_simp;refine(i7 _).mono ?_;rintro e D ⟨rfl,rfl⟩;exact⟨rfl,Or.inl ⟨m.out,rfl,p.out.base⟩⟩
   ·have B:Hid ((byt s).drop c=[]):=List.drop_eq_nil_iff.2 (by rw [iL];omega);have n:=ij (kL W z.drew b c s (t.out.grown (iy (ir _ _))) A q);have m:Hid (rdLit ([82,82,1]) ((byt s).drop k)=none):=by
     unfold Hid;rw [<-r.out,B.out,HX.out,rdLit]
    go_wp2_with fail
    refine iz (fun _=>True) 5 (by kernel_rfl) (by kernel_rfl) trivial ?_;intro x;refine ie 0 ?v0_9 rfl (by kernel_rfl) (fun _ _ _ h=>h) (by rfl) ?y0_9 trivial ?_
    case y0_9=>(intro u a;go_simp;try rfl)
    simp only [Act.put,List.setIfInBounds_toArray];refine ie 2 ?v2_10 rfl (by kernel_rfl) (fun _ _ _ h=>h) (by rfl) ?y2_10 trivial ?_
    case y2_10=>(intro u a;go_simp;try rfl)
    simp only [Act.put];refine ie 3 ?v3_11 rfl (by kernel_rfl) (fun _ _ _ h=>h) (by rfl) ?y3_11 trivial ?_
    case y3_11=>(intro u a;go_simp;try rfl)
    simp only [Act.put];refine iu (i:=1) rfl (by kernel_rfl) (by kernel_rfl) (by rfl) ?_;intro v d;have l:=ij d;clear d;go_simp;refine n.out.mono ?_;rintro e w6 ⟨rfl,f⟩;exact⟨rfl,Or.inl ⟨m.out,rfl,f⟩⟩
  ·have HX:Hid (([82,82,1]:List Nat).drop 1=82::[82,82,1].drop 2):=rfl;have G:(({ data:= #[82,82,1]}:ByteArray)[1]).toNat=82:=rfl;by_cases q:c<s.size
   ·have HB:=ij (jA s c q);have n:=ij (kM W z.drew b c s (t.out.grown (iy (ir _ _))) A q);generalize s[c].toNat=y at*;by_cases o:y=82
    ·have C:((y:Int)==82)=true:=by simp;omega
     have m:Hid (rdLit (([82,82,1]).drop (2)) ((byt s).drop (c+1))=rdLit ([82,82,1]) ((byt s).drop k)):=by
      unfold Hid;rw [<-r.out,HB.out,HX.out,rdLit,if_pos o]
     clear o;go_wp2_with fail
     refine iz (fun _=>True) 5 (by kernel_rfl) (by kernel_rfl) trivial ?_;intro x;refine ie 0 ?v0_12 rfl (by kernel_rfl) (fun _ _ _ h=>h) (by rfl) ?y0_12 trivial ?_
     case y0_12=>(intro u a;go_simp;try rfl)
     simp only [Act.put,List.setIfInBounds_toArray];refine ie 2 ?v2_13 rfl (by kernel_rfl) (fun _ _ _ h=>h) (by rfl) ?y2_13 trivial ?_
     case y2_13=>(intro u a;go_simp;try rfl)
     simp only [Act.put];refine ie 3 ?v3_14 rfl (by kernel_rfl) (fun _ _ _ h=>h) (by rfl) ?y3_14 trivial ?_
     case y3_14=>(intro u a;go_simp;try rfl)
     simp only [Act.put];refine iu (i:=1) rfl (by kernel_rfl) (by kernel_rfl) (by rfl) ?_;intro v d;have l:=ij d;clear d;go_simp;refine n.out.mono ?_;rintro e w6 ⟨rfl,f⟩;have p:=ij f;clear f;refine l.out _ _ trivial ?_;clear l;try simp only [Act.put,List.setIfInBounds_toArray]
     refine ie 4 ?v4_15 rfl (by kernel_rfl) (fun _ _ _ h=>h) (by rfl) ?y4_15 trivial ?_
     case y4_15=>(intro u a;go_simp;try rfl)
     simp only [Act.put];refine iF rfl (by kernel_rfl) (by kernel_rfl) (by rfl) ?_;go_simp;refine(jd _).mono ?_;rintro e D ⟨⟨H,rfl⟩,rfl⟩;go_wp2_with fail
     go_roundw
     case rel=>exact⟨2,c+1,by omega,by first | rfl | go_num,p,m⟩
     case measure=>simp [intOf]
    ·have C:((y:Int)==82)=false:=by simp;omega
     have m:Hid (rdLit ([82,82,1]) ((byt s).drop k)=none):=by
      unfold Hid;rw [<-r.out,HB.out,HX.out,rdLit,if_neg o]
     clear o;go_wp2_with fail
     refine iz (fun _=>True) 5 (by kernel_rfl) (by kernel_rfl) trivial ?_;intro x;refine ie 0 ?v0_16 rfl (by kernel_rfl) (fun _ _ _ h=>h) (by rfl) ?y0_16 trivial ?_
     case y0_16=>(intro u a;go_simp;try rfl)
     simp only [Act.put,List.setIfInBounds_toArray];refine ie 2 ?v2_17 rfl (by kernel_rfl) (fun _ _ _ h=>h) (by rfl) ?y2_17 trivial ?_
     case y2_17=>(intro u a;go_simp;try rfl)
     simp only [Act.put];refine ie 3 ?v3_18 rfl (by kernel_rfl) (fun _ _ _ h=>h) (by rfl) ?y3_18 trivial ?_
     case y3_18=>(intro u a;go_simp;try rfl)
     simp only [Act.put];refine iu (i:=1) rfl (by kernel_rfl) (by kernel_rfl) (by rfl) ?_;intro v d;have l:=ij d;clear d;go_simp;refine n.out.mono ?_;rintro e w6 ⟨rfl,f⟩;have p:=ij f;clear f;refine l.out _ _ trivial ?_;clear l;try simp only [Act.put,List.setIfInBounds_toArray]
     refine ie 4 ?v4_19 rfl (by kernel_rfl) (fun _ _ _ h=>h) (by rfl) ?y4_19 trivial ?_
     case y4_19=>(intro u a;go_simp;try rfl)
     simp only [Act.put];refine iF rfl (by kernel_rfl) (by kernel_rfl) (by rfl) ?_;go_simp;refine(i7 _).mono ?_;rintro e D ⟨rfl,rfl⟩;exact⟨rfl,Or.inl ⟨m.out,rfl,p.out.base⟩⟩
   ·have B:Hid ((byt s).drop c=[]):=List.drop_eq_nil_iff.2 (by rw [iL];omega);have n:=ij (kL W z.drew b c s (t.out.grown (iy (ir _ _))) A q);have m:Hid (rdLit ([82,82,1]) ((byt s).drop k)=none):=by
     unfold Hid;rw [<-r.out,B.out,HX.out,rdLit]
    go_wp2_with fail
    refine iz (fun _=>True) 5 (by kernel_rfl) (by kernel_rfl) trivial ?_;intro x;refine ie 0 ?v0_20 rfl (by kernel_rfl) (fun _ _ _ h=>h) (by rfl) ?y0_20 trivial ?_
    case y0_20=>(intro u a;go_simp;try rfl)
    simp only [Act.put,List.setIfInBounds_toArray];refine ie 2 ?v2_21 rfl (by kernel_rfl) (fun _ _ _ h=>h) (by rfl) ?y2_21 trivial ?_
    case y2_21=>(intro u a;go_simp;try rfl)
    simp only [Act.put];refine ie 3 ?v3_22 rfl (by kernel_rfl) (fun _ _ _ h=>h) (by rfl) ?y3_22 trivial ?_
    case y3_22=>(intro u a;go_simp;try rfl)
    simp only [Act.put];refine iu (i:=1) rfl (by kernel_rfl) (by kernel_rfl) (by rfl) ?_;intro v d;have l:=ij d;clear d;go_simp;refine n.out.mono ?_;rintro e w6 ⟨rfl,f⟩;exact⟨rfl,Or.inl ⟨m.out,rfl,f⟩⟩
  ·have HX:Hid (([82,82,1]:List Nat).drop 2=1::[82,82,1].drop 3):=rfl;have G:(({ data:= #[82,82,1]}:ByteArray)[2]).toNat=1:=rfl;by_cases q:c<s.size
   ·have HB:=ij (jA s c q);have n:=ij (kM W z.drew b c s (t.out.grown (iy (ir _ _))) A q);generalize s[c].toNat=y at*;by_cases o:y=1
    ·have C:((y:Int)==1)=true:=by simp;omega
     have m:Hid (rdLit (([82,82,1]).drop (3)) ((byt s).drop (c+1))=rdLit ([82,82,1]) ((byt s).drop k)):=by
      unfold Hid;rw [<-r.out,HB.out,HX.out,rdLit,if_pos o]
     clear o;go_wp2_with fail
     refine iz (fun _=>True) 5 (by kernel_rfl) (by kernel_rfl) trivial ?_;intro x;refine ie 0 ?v0_23 rfl (by kernel_rfl) (fun _ _ _ h=>h) (by rfl) ?y0_23 trivial ?_
     case y0_23=>(intro u a;go_simp;try rfl)
     simp only [Act.put,List.setIfInBounds_toArray];refine ie 2 ?v2_24 rfl (by kernel_rfl) (fun _ _ _ h=>h) (by rfl) ?y2_24 trivial ?_
     case y2_24=>(intro u a;go_simp;try rfl)
     simp only [Act.put];refine ie 3 ?v3_25 rfl (by kernel_rfl) (fun _ _ _ h=>h) (by rfl) ?y3_25 trivial ?_
     case y3_25=>(intro u a;go_simp;try rfl)
     simp only [Act.put];refine iu (i:=1) rfl (by kernel_rfl) (by kernel_rfl) (by rfl) ?_;intro v d;have l:=ij d;clear d;go_simp;refine n.out.mono ?_;rintro e w6 ⟨rfl,f⟩;have p:=ij f;clear f;refine l.out _ _ trivial ?_;clear l;try simp only [Act.put,List.setIfInBounds_toArray]
     refine ie 4 ?v4_26 rfl (by kernel_rfl) (fun _ _ _ h=>h) (by rfl) ?y4_26 trivial ?_
     case y4_26=>(intro u a;go_simp;try rfl)
     simp only [Act.put];refine iF rfl (by kernel_rfl) (by kernel_rfl) (by rfl) ?_;go_simp;refine(jd _).mono ?_;rintro e D ⟨⟨H,rfl⟩,rfl⟩;go_wp2_with fail
     go_roundw
     case rel=>exact⟨3,c+1,by omega,by first | rfl | go_num,p,m⟩
     case measure=>simp [intOf]
    ·have C:((y:Int)==1)=false:=by simp;omega
     have m:Hid (rdLit ([82,82,1]) ((byt s).drop k)=none):=by
      unfold Hid;rw [<-r.out,HB.out,HX.out,rdLit,if_neg o]
     clear o;go_wp2_with fail
     refine iz (fun _=>True) 5 (by kernel_rfl) (by kernel_rfl) trivial ?_;intro x;refine ie 0 ?v0_27 rfl (by kernel_rfl) (fun _ _ _ h=>h) (by rfl) ?y0_27 trivial ?_
     case y0_27=>(intro u a;go_simp;try rfl)
     simp only [Act.put,List.setIfInBounds_toArray];refine ie 2 ?v2_28 rfl (by kernel_rfl) (fun _ _ _ h=>h) (by rfl) ?y2_28 trivial ?_
     case y2_28=>(intro u a;go_simp;try rfl)
     simp only [Act.put];refine ie 3 ?v3_29 rfl (by kernel_rfl) (fun _ _ _ h=>h) (by rfl) ?y3_29 trivial ?_
     case y3_29=>(intro u a;go_simp;try rfl)
     simp only [Act.put];refine iu (i:=1) rfl (by kernel_rfl) (by kernel_rfl) (by rfl) ?_;intro v d;have l:=ij d;clear d;go_simp;refine n.out.mono ?_;rintro e w6 ⟨rfl,f⟩;have p:=ij f;clear f;refine l.out _ _ trivial ?_;clear l;try simp only [Act.put,List.setIfInBounds_toArray]
     refine ie 4 ?v4_30 rfl (by kernel_rfl) (fun _ _ _ h=>h) (by rfl) ?y4_30 trivial ?_
     case y4_30=>(intro u a;go_simp;try rfl)
     simp only [Act.put];refine iF rfl (by kernel_rfl) (by kernel_rfl) (by rfl) ?_;go_simp;refine(i7 _).mono ?_;rintro e D ⟨rfl,rfl⟩;exact⟨rfl,Or.inl ⟨m.out,rfl,p.out.base⟩⟩
   ·have B:Hid ((byt s).drop c=[]):=List.drop_eq_nil_iff.2 (by rw [iL];omega);have n:=ij (kL W z.drew b c s (t.out.grown (iy (ir _ _))) A q);have m:Hid (rdLit ([82,82,1]) ((byt s).drop k)=none):=by
     unfold Hid;rw [<-r.out,B.out,HX.out,rdLit]
    go_wp2_with fail
    refine iz (fun _=>True) 5 (by kernel_rfl) (by kernel_rfl) trivial ?_;intro x;refine ie 0 ?v0_31 rfl (by kernel_rfl) (fun _ _ _ h=>h) (by rfl) ?y0_31 trivial ?_
    case y0_31=>(intro u a;go_simp;try rfl)
    simp only [Act.put,List.setIfInBounds_toArray];refine ie 2 ?v2_32 rfl (by kernel_rfl) (fun _ _ _ h=>h) (by rfl) ?y2_32 trivial ?_
    case y2_32=>(intro u a;go_simp;try rfl)
    simp only [Act.put];refine ie 3 ?v3_33 rfl (by kernel_rfl) (fun _ _ _ h=>h) (by rfl) ?y3_33 trivial ?_
    case y3_33=>(intro u a;go_simp;try rfl)
    simp only [Act.put];refine iu (i:=1) rfl (by kernel_rfl) (by kernel_rfl) (by rfl) ?_;intro v d;have l:=ij d;clear d;go_simp;refine n.out.mono ?_;rintro e w6 ⟨rfl,f⟩;exact⟨rfl,Or.inl ⟨m.out,rfl,f⟩⟩
  ·have m:Hid (rdLit [82,82,1] ((byt s).drop k)=some ((),(byt s).drop c)):=by
    unfold Hid;rw [<-r.out];rfl
   go_wp2_with fail
   go_end0
   exact Or.inr ⟨(),_,_,c,m.out,rfl,trivial,t.out,rfl⟩
end
end Go.Proofs.YtklenjmfalljgabGreatDoor
