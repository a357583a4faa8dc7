/- The texts Scn3 Par Prn Prn2. -/
import Derived.Test.YtklenjmfalljgabGreatDoorM02
import Derived.Test.YtklenjmfalljgabGreatDoorM16
import Derived.Test.YtklenjmfalljgabGreatDoorShelf
import Derived.Lib.QuietBelow
import Derived.Lib.AppendIntMem
namespace Go.Proofs.YtklenjmfalljgabGreatDoor
set_option maxRecDepth 100000
set_option maxHeartbeats 8000000
section
open Go.RowKit
attribute [local go_sem] Go.World.cell?_alloc_some
def iZ(s:ByteArray)(a:Nat)(last:Int):FW:=jJ last ((byt s).drop a)
theorem EK{s:ByteArray}{a:Nat}{last:Int}(h:(lC last (thr last (-1) ((byt s).drop a)).1 && m8 s (a+(thr last (-1) ((byt s).drop a)).2) 42)=false):
  iZ s a last=⟨(thr last (-1) ((byt s).drop a)).1,1,lC last (thr last (-1) ((byt s).drop a)).1,(thr last (-1) ((byt s).drop a)).2⟩:=by
 unfold iZ jJ;rw [if_neg];unfold m8 at h;rw [List.getElem?_drop,h];simp
theorem Cp{s:ByteArray}{a:Nat}{last:Int}(c:lC last (thr last (-1) ((byt s).drop a)).1=true)(b:m8 s (a+(thr last (-1) ((byt s).drop a)).2) 42=true):
  iZ s a last=⟨(thr last (-1) ((byt s).drop a)).1,(cnt 0 ((byt s).drop (a+(thr last (-1) ((byt s).drop a)).2+1))).1,decide (1<(cnt 0 ((byt s).drop (a+(thr last (-1) ((byt s).drop a)).2+1))).1),
   (thr last (-1) ((byt s).drop a)).2+1+(cnt 0 ((byt s).drop (a+(thr last (-1) ((byt s).drop a)).2+1))).2⟩:=by
 unfold iZ jJ;unfold m8 at b;rw [if_pos (by rw [List.getElem?_drop,c,b];rfl),List.drop_drop];simp only [Nat.add_assoc]
def Dl(s:ByteArray)(b a:Nat)(last:Int)(w:World)(e:Ending)(w':World):Prop:=
 w.grownBy w' (some b)/\e= .returned (.tuple #[.agg #[.int .i64 (iZ s a last).thread,.int .i64 (iZ s a last).count],.bool (iZ s a last).ok])/\ScAt w' b s (a+(iZ s a last).len)/\
  0<=(iZ s a last).count/\(iZ s a last).count<=501/\ -1<=(iZ s a last).thread/\(iZ s a last).thread<=63
theorem ScAt.grown{w w':World}{b:Nat}{s:ByteArray}{a:Nat}(h:ScAt w b s a)(d:w.grownBy w' none):ScAt w' b s a:=by
 have c:=h.lt;unfold ScAt at*;rw [d.block b c (by simp)];exact h
theorem ScAt.setOther{w:World}{b g o:Nat}{v:Value}{s:ByteArray}{a:Nat}(h:ScAt w b s a)(c:b≠g):ScAt (w.setCell ⟨g,o,none⟩ v) b s a:=by
 unfold ScAt at*;rw [Below.heap_setCell _ _ _ _ (by simpa using c)];exact h
theorem Fo(s:ByteArray)(b a:Nat)(last:Int)(w:World)(h:ScAt w b s a)(ha:a<=s.size)(H:s.size<=9223372036854775806):
  Calls Tryz.prog 101 #[pt b,.int .i64 last] w (Dl s b a last w):=by
 have hb:=h.lt;have Y:=il h;clear h;have ao:pt b= .pointer (some ⟨b,0,none⟩):=rfl;rw [ao];go_enter Tryz.func101,Tryz.ntmps101
 go_wp2_with fail
 refine(Cs s b a last _ (Y.out.grown (ir (iu _ _))) ha H).mono ?_;rintro e i ⟨t,rfl,M,K,I⟩;have L:w.grownBy i (some b):=ip (ir (iu _ _)) t;have an:w.heap.size<i.heap.size:=by have:=t.size;simp at this;omega
 have Q:i.heap[w.heap.size]?=some (.cells #[.int .i64 0,.int .i64 0] 187 (0,0)):=by
  rw [t.block w.heap.size (by simp) (by simp;omega)];exact heap_alloc_new w _
 have R:=il L;have N:=il M;have q:=il Q;have V:a+(thr last (-1) ((byt s).drop a)).2<=s.size:=by
  have:=zg last (-1) ((byt s).drop a);rw [List.length_drop,iT]at this;omega
 have E:= @EK s a last;have P:= @Cp s a last;clear t L M Q;generalize thr last (-1) ((byt s).drop a)=T at*;obtain⟨n,k⟩:=T;simp only at*;have fin:∀ (d:World) (x y:Int) (z:Bool) (l:Nat),iZ s a last=⟨x,y,z,l⟩->w.grownBy d (some b)->ScAt d b s (a+l)->d.heap[w.heap.size]?=some (.cells #[.int .i64 0,.int .i64 0] 187 (0,0))->0<=y->y<=501-> -1<=x->x<=63->
   Dl s b a last w (.returned (.tuple #[.agg #[.int .i64 x,.int .i64 y],.bool z])) ((d.setCell ⟨w.heap.size,0,none⟩ (.int .i64 x)).setCell ⟨w.heap.size,1,none⟩ (.int .i64 y))/\
   ((d.setCell ⟨w.heap.size,0,none⟩ (.int .i64 x)).setCell ⟨w.heap.size,1,none⟩ (.int .i64 y)).heap[w.heap.size]?=some (.cells #[.int .i64 x,.int .i64 y] 187 (0,0)):=by
  intro d x y z l hr hg aj ae h1 X h3 h4;refine⟨?_,?_⟩
  ·unfold Dl;rw [hr];exact⟨iG (iG hg (Nat.le_refl _)) (Nat.le_refl _),rfl,(aj.setOther (by omega)).setOther (by omega),h1,X,h3,h4⟩
  ·rw [heap_setCell_same _ _ 1 _ _ _ (heap_setCell_same _ _ 0 _ _ _ ae)];rfl
 have F:=il fin;have hne:w.heap.size≠b:=by omega
 have z1:i.cell? ⟨w.heap.size,0,none⟩=some (.int .i64 0):=by have:=q.out;simp [World.cell?,this]
 have z2:i.cell? ⟨w.heap.size,1,none⟩=some (.int .i64 0):=by have:=q.out;simp [World.cell?,this]
 have z3:i.frozen? ⟨w.heap.size,0,none⟩=false:=by have:=q.out;simp [World.frozen?,this]
 have z4:i.frozen? ⟨w.heap.size,1,none⟩=false:=by have:=q.out;simp [World.frozen?,this]
 clear fin;cases hok:lC last n with
 | false=>
  have f:=E (by rw [hok];rfl);rw [hok]at f;go_wp2_with fail
  obtain⟨f1,j⟩:=F.out i n 1 false k f R.out N.out q.out (by omega) (by omega) K I;refine bodyPost_ret (v:= .tuple #[.agg #[.int .i64 n,.int .i64 1],.bool false]) ?_ rfl f1;have B:=cell_of_row _ _ 0 _ _ _ j;have A:=cell_of_row _ _ 1 _ _ _ j;simp at B A;simp [results,Tryz.results101,go_sem,B,A]
 | true=>
  go_wp2_with (go_at_call 100;refine(vw s b _ 42 _ N.out V H).mono ?_)
  rintro e d ⟨u,rfl,m⟩;have O:Hid (w.grownBy d (some b)):=ip R.out u;have r:d.heap[w.heap.size]?=some (.cells #[.int .i64 0,.int .i64 0] 187 (0,0)):=by
   rw [u.block w.heap.size an (by simp;omega)];exact q.out
  have au:w.heap.size<d.heap.size:=by have:=u.size;omega
  have B:d.cell? ⟨w.heap.size,0,none⟩=some (.int .i64 0):=by simp [World.cell?,r]
  have A:d.cell? ⟨w.heap.size,1,none⟩=some (.int .i64 0):=by simp [World.cell?,r]
  have y3:d.frozen? ⟨w.heap.size,0,none⟩=false:=by simp [World.frozen?,r]
  have y4:d.frozen? ⟨w.heap.size,1,none⟩=false:=by simp [World.frozen?,r]
  have S:=il r;clear u r z1 z2 z3 z4;unfold vU at m;cases hit:m8 s (a+k) 42 with
  | false=>
   have f:=E (by rw [hit];simp);rw [hok]at f;rw [hit,if_neg (by simp)]at m;have D:=il m;clear m;go_wp2_with fail
   obtain⟨f1,j⟩:=F.out d n 1 true k f O.out D.out S.out (by omega) (by omega) K I;refine bodyPost_ret (v:= .tuple #[.agg #[.int .i64 n,.int .i64 1],.bool true]) ?_ rfl f1;have x1:=cell_of_row _ _ 0 _ _ _ j;have x2:=cell_of_row _ _ 1 _ _ _ j;simp at x1 x2;simp [results,Tryz.results101,go_sem,x1,x2]
  | true=>
   have f:=P hok hit;rw [hit,if_pos rfl]at m;have D:=il m;have hlt:a+k<s.size:=by
    unfold m8 at hit;have:(byt s)[a+k]?=some 42:=by simpa using hit
    have:=kR this;rwa [iT]at this
   clear m E P;have e1:a+k+1=a+(k+1):=by omega
   have J:=EY s b (a+k+1) d D.out (by omega) H;generalize cnt 0 ((byt s).drop (a+k+1))=C at*;obtain⟨c,l⟩:=C;simp only at J f;have HC:=il J;clear J;go_wp2_with (go_at_call 143;refine HC.out.mono ?_)
   rintro e o ⟨G,rfl,U,ap,Z⟩;have W:Hid (w.grownBy o (some b)):=ip O.out G;have p:o.heap[w.heap.size]?=some (.cells #[.int .i64 0,.int .i64 0] 187 (0,0)):=by
    rw [G.block w.heap.size au (by simp;omega)];exact S.out
   have x1:o.cell? ⟨w.heap.size,0,none⟩=some (.int .i64 0):=by simp [World.cell?,p]
   have x2:o.cell? ⟨w.heap.size,1,none⟩=some (.int .i64 0):=by simp [World.cell?,p]
   have x3:o.frozen? ⟨w.heap.size,0,none⟩=false:=by simp [World.frozen?,p]
   have x4:o.frozen? ⟨w.heap.size,1,none⟩=false:=by simp [World.frozen?,p]
   have ak:=il p;have av:=il U;clear G p U B A y3 y4;go_wp2_with fail
   all_goals
    obtain⟨f1,j⟩:=F.out o n c (decide (1<c)) (k+1+l) (by rw [f]) W.out (by have:=av.out;rwa [show a+k+1+l=a+(k+1+l) by omega]at this) ak.out ap Z K I;refine bodyPost_ret (v:= .tuple #[.agg #[.int .i64 n,.int .i64 c],.bool (decide (1<c))]) ?_ rfl f1;have x1:=cell_of_row _ _ 0 _ _ _ j;have x2:=cell_of_row _ _ 1 _ _ _ j;simp at x1 x2;simp [results,Tryz.results101,go_sem,x1,x2]
theorem Dd(l:List Int)(t:Int)(k:Nat):iM (l++List.replicate (k+1) t)=iM (l++List.replicate k t)++[.int .i64 t]:=by
 rw [List.replicate_succ',<-List.append_assoc,Be]
theorem xq(a w:World)(r:Option Nat)(sv:Value)(l:List Int)(t:Int)(c:Nat)(h:w.ownsRow a.heap.size 3 1 sv l.length (iM l))(F:a.grownBy w r)(hc:c<=501)(hl:l.length<=501):
  Calls Tryz.prog 102 #[sv,.agg #[.int .i64 t,.int .i64 c]] w fun e w'=>∃ sv',e= .returned sv'/\w'.ownsRow a.heap.size 3 1 sv' (l++List.replicate c t).length (iM (l++List.replicate c t))/\a.grownBy w' r/\w.grownBy w' sv.ownBlock/\((∃ x y z,sv'= .slice x y z)):=by
 obtain⟨X,Q,Y,O,S⟩:=info_parts kn;obtain⟨v,n,s,rfl⟩:=iy h;have K:=il h;have U:=il F;have hW0:=F.size;clear h F;go_enter Tryz.func102,Tryz.ntmps102
 go_wp2_with fail
 go_loopw [0,7] (fun lv i w'=>∃ k:Nat,k<=c/\i= .int .i64 k/\Hid (w'.ownsRow a.heap.size 3 1 lv (l.length+k) (iM (l++List.replicate k t))/\a.grownBy w' r/\w'.heap[w.heap.size]?=some (.cells #[.int .i64 t,.int .i64 c] 187 (0,0))/\lv.ownBlock≠some w.heap.size/\w.grownBy w' (Value.slice v n s).ownBlock/\∀ k,lv.ownBlock=some k->(Value.slice v n s).ownBlock=some k\/w.heap.size<=k)) (fun _ i _=>c - (intOf i).toNat)
 case atStart=>
  refine⟨0,Nat.zero_le _,rfl,?_,ir U.out,heap_alloc_new _ _,?_,ir (iu _ _),fun k e=>Or.inl e⟩
  ·simpa using iK (o:= .cells #[.int .i64 t,.int .i64 c] 187) K.out
  ·intro e;rcases K.out.2 with ⟨e1,_⟩ | ⟨g,cap,cur,hv,_,hh,_⟩
   ·rw [e1]at e;cases e
   ·rw [hv]at e;simp [Value.ownBlock]at e;have:=(Array.getElem?_eq_some_iff.1 hh).1;omega
 case round=>
  obtain⟨k,hk,rfl,M⟩:=hrel;obtain⟨b,T⟩:∃ b,b=wr:=⟨_,rfl⟩;subst T;obtain⟨j,u,m,H,A,C⟩:=M.out;have d0:b.cell? ⟨w.heap.size,0,none⟩=some (.int .i64 t):=by simp [World.cell?,m]
  have d1:b.cell? ⟨w.heap.size,1,none⟩=some (.int .i64 c):=by simp [World.cell?,m]
  have R:w.heap.size<b.heap.size:=(Array.getElem?_eq_some_iff.1 m).1;by_cases hkl:k<c
  ·have q3:(k:Int)<c:=by omega
   have P:l.length+k+1<=maxLen:=by unfold maxLen;omega
   have V:=iB j;have E:=il j;have p:=il u;have N:=il m;have J:=il H;have B:=il A;have I:=il C;have hn:b.heap.size≠w.heap.size:=by omega
   clear j u m H A C;go_wp2_with (at_builtin;refine wpList_append_lies _ rfl _ _ _ rfl a.heap.size 3 X _ 1 8 Tryz.underlying39 Q Y O S rfl (by omega) u0 (l.length+k) (iM (l++List.replicate k t)) rfl (iK E.out) ⟨b.heap.size,0,none⟩ 1 1 [.int .i64 t] rfl rfl (World.news_of_block (cs:= #[.int .i64 t]) (t:=3) (fr:=(0,0)) (heap_alloc_new b _)) (by simp [Value.oneCell']) (by omega) P (by omega) (by simp;have:=p.out.size;omega) (b.heap.size+1) (by simp) ?_;intro g6 D w6 L d G hlt6)
   have Z:Hid (w6.ownsRow a.heap.size 3 1 (.slice (some ⟨g6,0,none⟩) (l.length+k+1) D) (l.length+(k+1)) (iM (l++List.replicate (k+1) t))/\a.grownBy w6 r/\w6.heap[w.heap.size]?=some (.cells #[.int .i64 t,.int .i64 c] 187 (0,0))/\(Value.slice (some ⟨g6,0,none⟩) (l.length+k+1) D).ownBlock≠some w.heap.size/\w.grownBy w6 (Value.slice v n s).ownBlock/\∀ q,(Value.slice (some ⟨g6,0,none⟩) (l.length+k+1) D).ownBlock=some q->(Value.slice v n s).ownBlock=some q\/w.heap.size<=q):=by
    refine⟨?_,jH (ir p.out) d (fun q e=>V q e),?_,?_,?_,?_⟩
    ·rw [Dd];exact L
    ·rw [d.block _ (by simp;omega) (fun e=>J.out e.symm),Below.heap_alloc _ _ _ R];exact N.out
    ·simp only [Value.ownBlock];rcases G with e | e
     ·rw [<-e];exact J.out
     ·rw [e];simp;omega
    ·have f:=ir (o:= .cells #[.int .i64 t] 3) B.out;refine⟨d.os.trans f.os,d.tape.trans f.tape,d.output.trans f.output,Nat.le_trans f.size d.size,fun q hq hr=>?_⟩;rw [d.block q (Nat.lt_of_lt_of_le hq f.size) (fun e=>by
      rcases I.out q e.symm with e2 | e2
      ·exact hr e2.symm
      ·omega)]
     exact f.block q hq hr
    ·intro q e;rcases G with e2 | e2
     ·exact I.out q (by rw [e2];exact e)
     ·right
      simp only [Value.ownBlock,Option.some.injEq]at e;omega
   clear L d G;go_wp2
   go_roundw
   case rel=>exact⟨k+1,by omega,by go_num,Z⟩
   case measure=>simp [intOf];omega
  ·have W:k=c:=by omega
   have q2:(c:Int)<=(k:Int):=by omega
   subst W;have E:=il j;have p:=il u;obtain⟨m1,m2,m3,rfl⟩:=iy j;have B:=il A;clear j u m H A C M;go_wp2
   go_ret;exact⟨_,rfl,by simpa using E.out,p.out,B.out,_,_,_,rfl⟩
def Bc(s:ByteArray)(sch:List Int)(total:Int)(a:Nat):AW:=if a<s.size then ⟨[],a,false⟩ else if total=501 then ⟨[],0,false⟩ else ⟨sch,0,true⟩
theorem B8{f:Nat}{c:List Int}{last b:Int}{a:Nat}{s:ByteArray}(h:(iZ s a last).ok=false):mw (f+1) c last b a ((byt s).drop a)=⟨[],a+(iZ s a last).len,false⟩:=by
 rw [mw];unfold iZ at*;rw [if_neg (by rw [h];simp)]
theorem qW{f:Nat}{d:List Int}{last b:Int}{a:Nat}{s:ByteArray}(h:(iZ s a last).ok=true)(c:m8 s (a+(iZ s a last).len) 32=true):
  mw (f+1) d last b a ((byt s).drop a)=mw f (mr d (min (b+(iZ s a last).count) 501) (iZ s a last).count (iZ s a last).thread) (iZ s a last).thread (min (b+(iZ s a last).count) 501) (a+(iZ s a last).len+1) ((byt s).drop (a+(iZ s a last).len+1)):=by
 have e:(byt s)[a+(iZ s a last).len]?=some 32:=by unfold m8 at c;simpa using c
 have i:=ns e;rw [mw];unfold iZ at*;rw [if_pos h,List.drop_drop,i];simp only [if_true]
theorem sY{f:Nat}{i:List Int}{last d:Int}{a:Nat}{s:ByteArray}(h:(iZ s a last).ok=true)(e:m8 s (a+(iZ s a last).len) 32=false):
  mw (f+1) i last d a ((byt s).drop a)=Bc s (mr i (min (d+(iZ s a last).count) 501) (iZ s a last).count (iZ s a last).thread) (min (d+(iZ s a last).count) 501) (a+(iZ s a last).len):=by
 unfold m8 at e;rw [mw];unfold iZ Bc at*;rw [if_pos h,List.drop_drop];cases h3:(byt s)[a+(jJ last ((byt s).drop a)).len]? with
 | none=>
  have b:=List.getElem?_eq_none_iff.1 h3;rw [List.drop_eq_nil_of_le b];rw [iT]at b;rw [if_neg (show ¬a+(jJ last ((byt s).drop a)).len<s.size by omega)]
 | some c=>
  have j:=ns h3;have b:=kR h3;rw [iT]at b;rw [j,if_pos b];rw [h3]at e;have:c≠32:=by simpa using e
  simp only [if_neg this]
structure wS(W0:World)(b:Nat)(s:ByteArray)(f:Nat)(sch:List Int)(last total:Int)(a:Nat)(w':World):Prop where
 grown:W0.grownBy w' (some b)
 sc:ScAt w' b s a
 le:a<=s.size
 lo: -1<=last
 hi:last<=63
 t0:0<=total
 t1:total<=501
 sl:(sch.length:Int)<=total
 fu:s.size - a<f
 eq:mw f sch last total a ((byt s).drop a)=jN (byt s)
structure uW(W0:World)(b:Nat)(s:ByteArray)(sch:List Int)(total:Int)(a:Nat)(w':World):Prop where
 grown:W0.grownBy w' (some b)
 sc:ScAt w' b s a
 le:a<=s.size
 t0:0<=total
 t1:total<=501
 sl:(sch.length:Int)<=total
 eq:Bc s sch total a=jN (byt s)
def yH(m:Value)(w:World)(b n:Nat):Nat:=match m with
 | .bool true=>n+1 - uM w b
 | _=>0
def wJ(s:ByteArray)(w:World)(e:Ending)(w':World):Prop:=
 ∃ x y z,e= .returned (.tuple #[.slice x y z,.int .i64 (jN (byt s)).at_,.bool (jN (byt s)).ok])/\w'.ownsRow (w.heap.size+1) 3 1 (.slice x y z) (jN (byt s)).out.length (iM (jN (byt s)).out)/\w.grownBy w' none
theorem CO(s:ByteArray)(a:Nat)(last:Int)(ha:a<=s.size):a+(iZ s a last).len<=s.size:=by
 have:=(Bk last ((byt s).drop a)).len;rw [List.length_drop,iT]at this;unfold iZ;omega
theorem CL(s:ByteArray)(w:World)(hs:s.size<=9223372036854775806):
  Calls Tryz.prog 72 #[.string s] w (wJ s w):=by
 obtain⟨b,L⟩:∃ b,b=w.heap.size:=⟨_,rfl⟩;obtain⟨n,O⟩:∃ n,n=w.alloc (.cells #[.string s,.int .i64 0] 184):=⟨_,rfl⟩;have aL:ScAt n b s 0:=by unfold ScAt;rw [O,L];exact heap_alloc_new w _
 have aD:n.heap.size=b+1:=by rw [O,L];simp
 have P:w.grownBy n none:=by rw [O];exact ir (iu _ _)
 have ax:Hid (∀ w',n.grownBy w' (some b)->w.grownBy w' none):=by
  intro w' h;refine⟨h.os.trans P.os,h.tape.trans P.tape,h.output.trans P.output,Nat.le_trans P.size h.size,fun k hk _=>?_⟩;rw [h.block k (by omega) (by simp;omega)];exact P.block k hk (by simp)
 have aK:=il aL;clear aL;have fin:∀ u,n.grownBy u (some b)->∀ (x:Option Addr) (y z:Nat) (p:AW),p=jN (byt s)->u.ownsRow (b+1) 3 1 (.slice x y z) p.out.length (iM p.out)->wJ s w (.returned (.tuple #[.slice x y z,.int .i64 p.at_,.bool p.ok])) u:=by
  intro u hg x y z p C ho;subst C;exact⟨x,y,z,rfl,by rw [<-L];exact ho,ax.out _ hg⟩
 have X:=il fin;clear fin ax;have aH:∀ u:World,u.ownsRow (b+1) 3 1 (.slice none 0 0) ([]:List Int).length (iM []):=fun u=>⟨rfl,Or.inl ⟨rfl,rfl⟩⟩
 have Y:=il aH;clear aH;go_enter Tryz.func72,Tryz.ntmps72
 by_cases M:s.size=0
 ·obtain rfl:s=⟨#[]⟩:=by
   obtain⟨d⟩:=s;simp [ByteArray.size]at M;rw [M]
  go_wp2_with fail
  rw [<-O,<-L];clear O L P;go_loopw [5,8,9] (fun sv t m w'=>sv= .slice none 0 0/\t= .int .i64 0/\m= .bool false/\w'=n) (fun _ _ _ _=>0)
  case atStart=>exact⟨rfl,rfl,rfl,rfl⟩
  case round=>
   obtain⟨rfl,rfl,rfl,rfl⟩:=hrel;have c1:wr.cell? ⟨b,1,none⟩=some (.int .i64 0):=aK.out.c1;have ab:(⟨#[]⟩:ByteArray).size=0:=rfl;go_wp2_with fail
   refine bodyPost_ret (v:= .tuple #[.slice none 0 0,.int .i64 0,.bool true]) (by simp [results,Tryz.results72,go_sem]) rfl ?_;exact X.out _ (iu _ _) none 0 0 ⟨[],0,true⟩ rfl (Y.out _)
 ·have aN:s≠⟨#[]⟩:=by intro e;rw [e]at M;simp [ByteArray.size]at M
  go_wp2_with fail
  rw [<-O,<-L];have H0:Hid (wS n b s (s.size+1) [] (-1) 0 0 n):=by
   refine⟨iu _ _,aK.out,by omega,by omega,by omega,by omega,by omega,by simp,by omega,?_⟩;unfold jN;rw [if_neg (by intro e;have:=congrArg List.length e;rw [iT]at this;exact M this),iT];rfl
  have hbW:b<n.heap.size:=by omega
  have aw:s.toList.isEmpty=false:=by
   rw [ByteArray.toList_eq];cases hd:s.data.toList with
   | nil=>exact absurd (by have:=congrArg List.length hd;simpa using this) M
   | cons a b=>rfl
  rw [aw,Bool.not_false];clear aN M O P aw;clear L;go_loopw [5,7,8,9] (fun sv l t m w'=>∃ (j:List Int) (f:Nat) (last q:Int) (mb:Bool) (i:Nat),l= .int .i64 last/\t= .int .i64 q/\m= .bool mb/\Hid ((mb=true/\wS n b s f j last q i w')\/(mb=false/\uW n b s j q i w'))/\Hid (w'.ownsRow (b+1) 3 1 sv j.length (iM j))) (fun _ _ _ m w'=>yH m w' b s.size)
  case atStart=>exact⟨[],s.size+1, -1,0,true,0,rfl,rfl,rfl,il (Or.inl ⟨rfl,H0.out⟩),il (Y.out _)⟩
  case round=>
   obtain⟨j,f,last,q,mb,i,rfl,rfl,rfl,HI,HO⟩:=hrel;obtain⟨x1,x2,x3,rfl⟩:=iy HO.out;rcases HI.out with ⟨rfl,C⟩ | ⟨rfl,C⟩
   ·have B:=il C;have Q:Hid (uM wr b=i):=lN C.sc;obtain⟨f,rfl⟩:∃ f',f=f'+1:=⟨f - 1,by have:=C.fu;omega⟩;have al:=C.le;have ht0:=C.t0;have ht1:=C.t1;have hsl:=C.sl;have hfu:=C.fu;clear C HI;go_wp2_with fail
    refine(Fo s b i last _ B.out.sc al hs).mono ?_;rintro e R ⟨ah,rfl,ab,aX,hc1,ak,an⟩;have am:=CO s i last al;have aB:Hid (n.grownBy R (some b)):=ip B.out.grown ah;have aV:Hid (R.ownsRow (b+1) 3 1 (.slice x1 x2 x3) j.length (iM j)):=iE HO.out ah (fun k e=>by simp at e;omega);have az:=il ab;have hsz1:=ab.lt;clear ah ab HO;cases hok:(iZ s i last).ok with
    | false=>
     have HB:Hid (jN (byt s)=⟨[],i+(iZ s i last).len,false⟩):=by
      unfold Hid;rw [<-B.out.eq];exact B8 hok
     have c1:=az.out.c1;go_wp2_with fail
     go_quiet (fail)
     go_wp2_with fail
     refine bodyPost_ret (v:= .tuple #[.slice none 0 0,.int .i64 ((i+(iZ s i last).len:Nat):Int),.bool false]) (by simp [results,Tryz.results72,go_sem]) rfl ?_;exact X.out _ (iY _ (ir aB.out)) none 0 0 ⟨[],i+(iZ s i last).len,false⟩ HB.out.symm (Y.out _)
    | true=>
     have aG:∀ o,n.grownBy (R.alloc o) (some b):=fun o=>ir aB.out
     have ar:∀ o,(R.alloc o).ownsRow (b+1) 3 1 (.slice x1 x2 x3) j.length (iM j):=fun o=>iK aV.out
     have aA:∀ o,ScAt (R.alloc o) b s (i+(iZ s i last).len):=fun o=>az.out.grown (ir (iu _ _))
     obtain⟨K,V⟩:∃ K,K=R.alloc (.cells #[.int .i64 (iZ s i last).thread,.int .i64 (iZ s i last).count] 187):=⟨_,rfl⟩;have ad:Hid (K.ownsRow (b+1) 3 1 (.slice x1 x2 x3) j.length (iM j)):=by rw [V];exact ar _
     have aa:Hid (ScAt K b s (i+(iZ s i last).len)):=by rw [V];exact aA _
     have ap:Hid (n.grownBy K (some b)):=by rw [V];exact aG _
     clear aG ar aA;have ai:=il V;clear V;by_cases hm:501<q+(iZ s i last).count
     ·have N:Hid (min (q+(iZ s i last).count) 501=501):=by unfold Hid;omega
      have J:Hid (mr j 501 (iZ s i last).count (iZ s i last).thread=j):=by
       unfold Hid mr;rw [if_neg (by omega)]
      have H:(j.length:Int)<=501:=by omega
      have au:b<K.heap.size:=aa.out.lt;have W:i+(iZ s i last).len<=s.size:=am;go_wp2_with fail
      rw [<-ai.out];refine(vw s b _ 32 _ aa.out W hs).mono ?_;rintro e u ⟨D,rfl,r⟩;have I:Hid (u.ownsRow (b+1) 3 1 (.slice x1 x2 x3) j.length (iM j)):=iE ad.out D (fun k e=>by simp at e;omega);have G:Hid (n.grownBy u (some b)):=ip ap.out D;unfold vU at r;cases hit:m8 s (i+(iZ s i last).len) 32 with
      | true=>
       rw [hit,if_pos rfl]at r;have A:Hid (wS n b s f j (iZ s i last).thread 501 (i+(iZ s i last).len+1) u):=by
        have S:i+(iZ s i last).len<s.size:=by
         unfold m8 at hit;have:=kR (show (byt s)[i+(iZ s i last).len]?=some 32 by simpa using hit);rwa [iT]at this
        exact⟨G.out,r,by omega,ak,an,by omega,by omega,H,by omega,by have e:=B.out.eq;rw [qW hok hit,N.out,J.out]at e;exact e⟩
       clear D r;go_wp2_with fail
       go_roundw
       case rel=>exact⟨j,f,(iZ s i last).thread,501,true,i+(iZ s i last).len+1,rfl,rfl,rfl,il (Or.inl ⟨rfl,A.out⟩),I⟩
       case measure=>
        have U:=lN A.out.sc;have E:=Q.out;have e3:=A.out.le;simp only [yH,U,E];omega
      | false=>
       rw [hit,if_neg (by simp)]at r;have A:Hid (uW n b s j 501 (i+(iZ s i last).len) u):=
        ⟨G.out,r,by omega,by omega,by omega,H,by have e:=B.out.eq;rw [sY hok hit,N.out,J.out]at e;exact e⟩
       clear D r;go_wp2_with fail
       go_roundw
       case rel=>exact⟨j,f,(iZ s i last).thread,501,false,i+(iZ s i last).len,rfl,rfl,rfl,il (Or.inr ⟨rfl,A.out⟩),I⟩
       case measure=>
        have E:=Q.out;simp only [yH,E];omega
     ·have N:Hid (min (q+(iZ s i last).count) 501=(q+(iZ s i last).count)):=by unfold Hid;omega
      by_cases aj:q+(iZ s i last).count=501
      ·have J:Hid (mr j (q+(iZ s i last).count) (iZ s i last).count (iZ s i last).thread=j):=by
        unfold Hid mr;rw [if_neg (by omega)]
       have H:(j.length:Int)<=(q+(iZ s i last).count):=by omega
       have a0:¬(q+(iZ s i last).count<501):=by omega
       have HM2:=il aj;clear aj;have au:b<K.heap.size:=aa.out.lt;have W:i+(iZ s i last).len<=s.size:=am;go_wp2_with fail
       rw [<-ai.out];refine(vw s b _ 32 _ aa.out W hs).mono ?_;rintro e u ⟨D,rfl,r⟩;have I:Hid (u.ownsRow (b+1) 3 1 (.slice x1 x2 x3) j.length (iM j)):=iE ad.out D (fun k e=>by simp at e;omega);have G:Hid (n.grownBy u (some b)):=ip ap.out D;unfold vU at r;cases hit:m8 s (i+(iZ s i last).len) 32 with
       | true=>
        rw [hit,if_pos rfl]at r;have A:Hid (wS n b s f j (iZ s i last).thread (q+(iZ s i last).count) (i+(iZ s i last).len+1) u):=by
         have S:i+(iZ s i last).len<s.size:=by
          unfold m8 at hit;have:=kR (show (byt s)[i+(iZ s i last).len]?=some 32 by simpa using hit);rwa [iT]at this
         exact⟨G.out,r,by omega,ak,an,by omega,by omega,H,by omega,by have e:=B.out.eq;rw [qW hok hit,N.out,J.out]at e;exact e⟩
        clear D r;go_wp2_with fail
        go_roundw
        case rel=>exact⟨j,f,(iZ s i last).thread,(q+(iZ s i last).count),true,i+(iZ s i last).len+1,rfl,rfl,rfl,il (Or.inl ⟨rfl,A.out⟩),I⟩
        case measure=>
         have U:=lN A.out.sc;have E:=Q.out;have e3:=A.out.le;simp only [yH,U,E];omega
       | false=>
        rw [hit,if_neg (by simp)]at r;have A:Hid (uW n b s j (q+(iZ s i last).count) (i+(iZ s i last).len) u):=
         ⟨G.out,r,by omega,by omega,by omega,H,by have e:=B.out.eq;rw [sY hok hit,N.out,J.out]at e;exact e⟩
        clear D r;go_wp2_with fail
        go_roundw
        case rel=>exact⟨j,f,(iZ s i last).thread,(q+(iZ s i last).count),false,i+(iZ s i last).len,rfl,rfl,rfl,il (Or.inr ⟨rfl,A.out⟩),I⟩
        case measure=>
         have E:=Q.out;simp only [yH,E];omega
      ·have a0:q+(iZ s i last).count<501:=by omega
       obtain⟨c,hc⟩:=Int.eq_ofNat_of_zero_le aX;obtain⟨F,Z⟩:∃ F,F=j++List.replicate c (iZ s i last).thread:=⟨_,rfl⟩;have J:Hid (mr j (q+(iZ s i last).count) (iZ s i last).count (iZ s i last).thread=F):=by
        unfold Hid mr;rw [if_pos (by omega),Z,hc];rfl
       have H:(F.length:Int)<=(q+(iZ s i last).count):=by rw [Z];simp;omega
       have aq:=xq n K (some b) (.slice x1 x2 x3) j (iZ s i last).thread c (by rw [aD];exact ad.out) ap.out (by omega) (by omega);rw [aD,<-Z,<-hc]at aq;have aI:=il aq;have HC:=il hc;have HS3':=il Z;clear aq hc Z;clear aj;go_wp2_with fail
       rw [<-ai.out];refine aI.out.mono ?_;rintro e w5 ⟨sv5,rfl,aE,av,aF,y1,y2,y3,rfl⟩;have aC:Hid (ScAt w5 b s (i+(iZ s i last).len)):=by
        have h3:=aa.out;have aT:=h3.lt;have aZ:=iB ad.out;unfold Hid ScAt at*;rw [aF.block b aT (fun e=>by have:=aZ b e.symm;omega)];exact h3
       have a1:=il aE;have aU:=il av;clear aE av aF aI;have au:b<w5.heap.size:=aC.out.lt;have W:i+(iZ s i last).len<=s.size:=am;go_wp2_with fail
       refine(vw s b _ 32 _ aC.out W hs).mono ?_;rintro e u ⟨D,rfl,r⟩;have I:Hid (u.ownsRow (b+1) 3 1 (.slice y1 y2 y3) F.length (iM F)):=iE a1.out D (fun k e=>by simp at e;omega);have G:Hid (n.grownBy u (some b)):=ip aU.out D;unfold vU at r;cases hit:m8 s (i+(iZ s i last).len) 32 with
       | true=>
        rw [hit,if_pos rfl]at r;have A:Hid (wS n b s f F (iZ s i last).thread (q+(iZ s i last).count) (i+(iZ s i last).len+1) u):=by
         have S:i+(iZ s i last).len<s.size:=by
          unfold m8 at hit;have:=kR (show (byt s)[i+(iZ s i last).len]?=some 32 by simpa using hit);rwa [iT]at this
         exact⟨G.out,r,by omega,ak,an,by omega,by omega,H,by omega,by have e:=B.out.eq;rw [qW hok hit,N.out,J.out]at e;exact e⟩
        clear D r;go_wp2_with fail
        go_roundw
        case rel=>exact⟨F,f,(iZ s i last).thread,(q+(iZ s i last).count),true,i+(iZ s i last).len+1,rfl,rfl,rfl,il (Or.inl ⟨rfl,A.out⟩),I⟩
        case measure=>
         have U:=lN A.out.sc;have E:=Q.out;have e3:=A.out.le;simp only [yH,U,E];omega
       | false=>
        rw [hit,if_neg (by simp)]at r;have A:Hid (uW n b s F (q+(iZ s i last).count) (i+(iZ s i last).len) u):=
         ⟨G.out,r,by omega,by omega,by omega,H,by have e:=B.out.eq;rw [sY hok hit,N.out,J.out]at e;exact e⟩
        clear D r;go_wp2_with fail
        go_roundw
        case rel=>exact⟨F,f,(iZ s i last).thread,(q+(iZ s i last).count),false,i+(iZ s i last).len,rfl,rfl,rfl,il (Or.inr ⟨rfl,A.out⟩),I⟩
        case measure=>
         have E:=Q.out;simp only [yH,E];omega
   ·have B:=il C;have c1:=C.sc.c1;have al:=C.le;clear C HI;by_cases S:i<s.size
    ·have T:Hid (jN (byt s)=⟨[],i,false⟩):=by unfold Hid;rw [<-B.out.eq,Bc,if_pos S]
     have q1:(i:Int)<s.size:=by omega
     go_wp2_with fail
     go_quiet (fail)
     go_wp2_with fail
     refine bodyPost_ret (v:= .tuple #[.slice none 0 0,.int .i64 (i:Int),.bool false]) (by simp [results,Tryz.results72,go_sem]) rfl ?_;exact X.out _ (iY _ B.out.grown) none 0 0 ⟨[],i,false⟩ T.out.symm (Y.out _)
    ·have q1:(s.size:Int)<=i:=by omega
     by_cases h5:q=501
     ·have T:Hid (jN (byt s)=⟨[],0,false⟩):=by unfold Hid;rw [<-B.out.eq,Bc,if_neg S,if_pos h5]
      have h6:(q==501)=true:=by simpa using h5
      clear h5;go_wp2_with fail
      refine bodyPost_ret (v:= .tuple #[.slice none 0 0,.int .i64 0,.bool false]) (by simp [results,Tryz.results72,go_sem]) rfl ?_;exact X.out _ B.out.grown none 0 0 ⟨[],0,false⟩ T.out.symm (Y.out _)
     ·have T:Hid (jN (byt s)=⟨j,0,true⟩):=by unfold Hid;rw [<-B.out.eq,Bc,if_neg S,if_neg h5]
      go_wp2_with fail
      refine bodyPost_ret (v:= .tuple #[.slice x1 x2 x3,.int .i64 0,.bool true]) (by simp [results,Tryz.results72,go_sem]) rfl ?_;exact X.out _ B.out.grown x1 x2 x3 ⟨j,0,true⟩ T.out.symm HO.out
def okN(t:Int):Bool:=decide (0<=t) && decide (t<=63)
theorem zt(l:List Int)(v:Value)(w:World)(t:IntsAt w.heap.size w v l):
  Calls Tryz.prog 76 #[v] w fun e w'=>e= .returned (.bool (jd l))/\w.grownBy w' none:=by
 obtain⟨ao,cap,rfl,hcap,hc⟩:=t;by_cases n:l.length<=500
 ·have q:(l.length:Int)<=500:=by omega
  have b:Hid (jd l=l.all okN):=by unfold Hid jd;rw [decide_eq_true n];rfl
  have u:=il hc;clear hc;go_enter Tryz.func76,Tryz.ntmps76
  go_wp2
  go_loopw [10] (fun i w'=>∃ k:Nat,k<=l.length/\i= .int .i64 k/\w'=w/\Hid ((l.take k).all okN=true)) (fun i _=>l.length - (intOf i).toNat)
  case atStart=>exact⟨0,Nat.zero_le _,rfl,rfl,rfl⟩
  case round=>
   obtain⟨k,hk,rfl,rfl,j⟩:=hrel;by_cases f:k<l.length
   ·obtain⟨g,o,rfl,hg,c0⟩:=u.out k f;have c:=il (kY l okN k f);have hk0:(0:Int)<=(k:Int):=by omega
    have hk1:(k:Int)<l.length:=by omega
    have p:Hid (okN l[k]=false->jd l=false):=by
     intro h;rw [b.out];have:(l.take (k+1)).all okN=false:=by rw [c.out,h];simp
     rw [<-List.take_append_drop (k+1) l,List.all_append,this];rfl
    generalize l[k]=x at*;by_cases m:0<=x
    ·by_cases d:x<=63
     ·have r:Hid ((l.take (k+1)).all okN=true):=by unfold Hid;rw [c.out,j.out];simp [okN,m,d]
      have y:¬x<0:=by omega
      have s:¬63<x:=by omega
      go_wp2
      go_roundw
      case rel=>exact⟨k+1,by omega,by go_num,trivial,r⟩
      case measure=>simp [intOf];omega
     ·have a:=il (p.out (by simp [okN,d]));have s:63<x:=by omega
      go_wp2
      go_ret;exact⟨by rw [a.out];rfl,iu _ _⟩
    ·have a:=il (p.out (by simp [okN,m]));have y:x<0:=by omega
     go_wp2
     go_ret;exact⟨by rw [a.out];rfl,iu _ _⟩
   ·have a:Hid (jd l=true):=by
     unfold Hid;rw [b.out];have:=j.out;rw [List.take_of_length_le (by omega)]at this;exact this
    go_wp2
    go_ret;exact⟨by rw [a.out];rfl,iu _ _⟩
 ·have q:500<(l.length:Int):=by omega
  have b:Hid (jd l=false):=by unfold Hid jd;rw [decide_eq_false n];rfl
  clear hc;go_enter Tryz.func76,Tryz.ntmps76
  go_wp2
  go_ret;exact⟨by rw [b.out];rfl,iu _ _⟩
theorem Bh(q:List (Int × Int)):(iS q).length=q.length*2:=by
 induction q with
 | nil=>rfl
 | cons x q ih=>simp [iS]at ih ⊢;omega
theorem AA(q:List (Int × Int))(d:q≠[])(x:Int × Int)(a:q.getLast?=some x):(iS q).set ((q.length - 1)*2+1) (.int .i64 (x.2+1))=iS (nW q):=by
 induction q with
 | nil=>exact absurd rfl d
 | cons y q ih=>
  cases q with
  | nil=>
   simp at a;subst a
   simp [iS,nW]
  | cons z q=>
   rw [List.getLast?_cons_cons]at a;have:=ih (by simp) a;have e:iS (y::z::q)= .int .i64 y.1:: .int .i64 y.2::iS (z::q):=rfl;have c:iS (nW (y::z::q))= .int .i64 y.1:: .int .i64 y.2::iS (nW (z::q)):=rfl;rw [e,c,<-this];have b:((y::z::q).length - 1)*2+1=(((z::q).length - 1)*2+1)+1+1:=by simp;omega
   rw [b,List.set_cons_succ,List.set_cons_succ]
theorem CG(q:List (Int × Int)):(nW q).length=q.length:=by
 induction q with
 | nil=>rfl
 | cons y q ih=>
  cases q with
  | nil=>rfl
  | cons z q=>simp [nW]at ih ⊢;exact ih
theorem De(q:List (Int × Int))(x:Int × Int)(a:q.getLast?=some x):(iS q)[(q.length - 1)*2+1]?=some (.int .i64 x.2):=by
 induction q with
 | nil=>simp at a
 | cons y q ih=>
  cases q with
  | nil=>simp at a;subst a;simp [iS]
  | cons z q=>
   rw [List.getLast?_cons_cons]at a;have:=ih a;have c:iS (y::z::q)= .int .i64 y.1:: .int .i64 y.2::iS (z::q):=rfl;have b:((y::z::q).length - 1)*2+1=(((z::q).length - 1)*2+1)+1+1:=by simp;omega
   rw [c,b];exact this
theorem B5:((Tryz.prog.info? 187).map fun i=>(i.zero,i.size,i.bytes))=some (some (.agg #[.int .i64 0,.int .i64 0]),2,16):=by kernel_rfl
theorem F5(l:List Int)(v:Value)(w:World)(hI:IntsAt w.heap.size w v l)(h5:l.length<=500):
  Calls Tryz.prog 107 #[v] w fun e w'=>∃ x y z,e= .returned (.slice x y z)/\w'.ownsRow w.heap.size 187 2 (.slice x y z) (grp l).length (iS (grp l))/\w.grownBy w' none:=by
 obtain⟨i0,aa,am,ag,ac⟩:=info_parts B5;obtain⟨ao,cap,rfl,hcap,hc⟩:=hI;have HC:=il hc;clear hc;go_enter Tryz.func107,Tryz.ntmps107
 go_wp2_with fail
 go_loopw [3,8] (fun lv i w'=>∃ k:Nat,k<=l.length/\i= .int .i64 k/\Hid (w'.ownsRow w.heap.size 187 2 lv (grp (l.take k)).length (iS (grp (l.take k)))/\w.grownBy w' none)) (fun _ i _=>l.length - (intOf i).toNat)
 case atStart=>exact⟨0,Nat.zero_le _,rfl,⟨rfl,Or.inl ⟨rfl,rfl⟩⟩,iu _ _⟩
 case round=>
  obtain⟨k,hk,rfl,d⟩:=hrel;obtain⟨c,az⟩:∃ c,c=wr:=⟨_,rfl⟩;subst az;obtain⟨x1,x2,x3,rfl⟩:=iy d.out.1;by_cases ak:k<l.length
  ·obtain⟨g,o,rfl,hg,c0⟩:=HC.out k ak;have d0:=iq d.out.2 _ _ c0;have hk0:(0:Int)<=(k:Int):=by omega
   have hk1:(k:Int)<l.length:=by omega
   have W:Hid (l.take (k+1)=l.take k++[l[k]]):=List.take_succ_eq_append_getElem ak;have K:=pd (l.take k);have aq:(grp (l.take k)).length<=500:=by simp at K;omega
   have f:=C8 (l.take k);have J:=p9 (l.take k);have Z:∀ (w6:World) (g6 a:Nat) (q:List (Int × Int)) (x:Int × Int),q≠[]->q.getLast?=some x->w6.ownsRow w.heap.size 187 2 (.slice (some ⟨g6,0,none⟩) q.length a) q.length (iS q)->w.grownBy w6 none->
     (w6.setCell ⟨g6,(q.length - 1)*2+1,none⟩ (.int .i64 (x.2+1))).ownsRow w.heap.size 187 2 (.slice (some ⟨g6,0,none⟩) q.length a) (nW q).length (iS (nW q))/\w.grownBy (w6.setCell ⟨g6,(q.length - 1)*2+1,none⟩ (.int .i64 (x.2+1))) none/\
     w6.cell? ⟨g6,(q.length - 1)*2+1,none⟩=some (.int .i64 x.2)/\w6.frozen? ⟨g6,(q.length - 1)*2+1,none⟩=false:=by
    intro w6 g6 a q x hq L j U;have hql:0<q.length:=List.length_pos_iff.2 hq;refine⟨?_,?_,?_,?_⟩
    ·rw [CG,<-AA q hq x L];exact jt j _ _
    ·exact iG U (iB j g6 rfl)
    ·rw [j.cellAt _ (by omega)];exact De q x L
    ·rcases j.2 with ⟨e,_⟩ | ⟨g',cap',cur,hv,hb,hh,_⟩
     ·cases e
     ·simp only [Value.slice.injEq,Option.some.injEq,Addr.mk.injEq,true_and,and_true]at hv;obtain⟨rfl,rfl⟩:=hv;simp [World.frozen?,hh]
   have u:=il Z;clear Z;have h:=il d.out.1;have s:=il d.out.2;have H2s:=d.out.2.size;have V:=iB h.out;have Q:(grp (l.take k)).length+1<=maxLen:=by unfold maxLen;omega
   have aj:¬(l.take k).getLast?=some l[k]->∀ (w6:World) (g6 a:Nat),w6.ownsRow w.heap.size 187 2 (.slice (some ⟨g6,0,none⟩) ((grp (l.take k)).length+1) a) ((grp (l.take k)).length+1) (iS (grp (l.take k))++[.int .i64 l[k],.int .i64 0])->w.grownBy w6 none->
     (w6.setCell ⟨g6,(grp (l.take k)).length*2+1,none⟩ (.int .i64 1)).ownsRow w.heap.size 187 2 (.slice (some ⟨g6,0,none⟩) ((grp (l.take k)).length+1) a) (grp (l.take (k+1))).length (iS (grp (l.take (k+1))))/\w.grownBy (w6.setCell ⟨g6,(grp (l.take k)).length*2+1,none⟩ (.int .i64 1)) none/\
     w6.cell? ⟨g6,(grp (l.take k)).length*2+1,none⟩=some (.int .i64 0)/\w6.frozen? ⟨g6,(grp (l.take k)).length*2+1,none⟩=false:=by
    intro hn w6 g6 a j U;have:=u.out w6 g6 a (grp (l.take k)++[(l[k],0)]) (l[k],0) (by simp) (by simp) (by simpa [iS]using j) U;have e2:nW (grp (l.take k)++[(l[k],0)])=grp (l.take (k+1)):=by
     rw [W.out,vR,if_neg hn];have:∀ q:List (Int × Int),nW (q++[(l[k],0)])=q++[(l[k],1)]:=by
      intro q;induction q with
      | nil=>rfl
      | cons y q ih=>
       cases q with
       | nil=>rfl
       | cons z q=>rw [List.cons_append,List.cons_append,nW,<-List.cons_append,ih];rfl
     exact this _
    rw [e2]at this;simpa using this
   have E:=il aj;clear aj;by_cases P:k=0
   ·have B:=E.out (by subst P;simp);have M:=il B;clear B E u f J K;have q0:((k:Int)==0)=true:=by simp;omega
    clear P c0;generalize l[k]=x at*;go_wp2_with (at_builtin;refine wpList_append_lies _ rfl _ _ _ rfl w.heap.size 187 i0 _ 2 16 Tryz.underlying195 aa am ag ac rfl (by omega) (.slice x1 x2 x3) (grp (l.take k)).length (iS (grp (l.take k))) rfl (iK h.out) ⟨c.heap.size,0,none⟩ 1 1 [.int .i64 x,.int .i64 0] rfl rfl (World.news_of_block (cs:= #[.int .i64 x,.int .i64 0]) (t:=187) (fr:=(0,0)) (heap_alloc_new c _)) (by simp [Value.oneCell']) (by omega) Q (by omega) (by simp;omega) (c.heap.size+1) (by simp) ?_;intro g6 a w6 C G O ar;obtain⟨f1,b,Y,X⟩:=M.out w6 g6 a C (jH (ir s.out) G (fun q e=>V q e));have A:=il f1;have F:=il b;clear f1 b C G O)
    go_roundw
    case rel=>exact⟨k+1,by omega,by go_num,A.out,F.out⟩
    case measure=>simp [intOf];omega
   ·have q0:((k:Int)==0)=false:=by simp;omega
    have ah:k - 1<l.length:=by omega
    obtain⟨g',o',e',_,c1⟩:=HC.out (k - 1) ah;simp only [Option.some.injEq,Addr.mk.injEq,and_true]at e';obtain⟨rfl,rfl⟩:=e';have d1:=iq s.out _ _ c1;have H:(l.take k).getLast?=some l[k - 1]:=by
     rw [List.getLast?_eq_getElem?,List.length_take,Nat.min_eq_left (by omega),List.getElem?_take,if_pos (by omega),List.getElem?_eq_getElem ah]
    have hkk:(k:Int) - 1=((k - 1:Nat):Int):=by omega
    have q1:(0:Int)<=(k:Int) - 1:=by omega
    have q2:(k:Int) - 1<l.length:=by omega
    have q3:((k:Int) - 1).toNat=k - 1:=by omega
    clear c0 c1 P;by_cases r:l[k]=l[k - 1]
    ·have L:∃ x,(grp (l.take k)).getLast?=some x:=by
      rw [H]at f;cases hg2:(grp (l.take k)).getLast? with
      | none=>rw [hg2]at f;cases f
      | some x=>exact⟨x,rfl⟩
     obtain⟨y,D⟩:=L;have N:=J y (List.mem_of_getLast? D);have T:grp (l.take k)≠[]:=fun e=>by rw [e]at D;cases D
     have hE:Hid (nW (grp (l.take k))=grp (l.take (k+1))):=by
      unfold Hid;rw [W.out,vR,if_pos (by rw [H,r])]
     obtain⟨m,p⟩:∃ m,(grp (l.take k)).length=m+1:=⟨(grp (l.take k)).length - 1,by have:=List.length_pos_iff.2 T;omega⟩;obtain⟨g6,a,I,_,_⟩:=h.out.form (by omega);have R:=h.out;rw [I]at R;obtain⟨f1,b,Y,X⟩:=u.out c g6 a (grp (l.take k)) y T D R s.out;rw [hE.out,p,Nat.add_sub_cancel]at f1;rw [p,Nat.add_sub_cancel]at b Y X;rw [p]at I;simp only [Value.slice.injEq]at I;obtain⟨rfl,rfl,rfl⟩:=I;have A:=il f1;have F:=il b;have an:(l[k]==l[k - 1])=true:=by simpa using r
     have hyc2:y.2<=500:=by simp at N;omega
     have hyc1:=N.2.1;have hm500:m+1<=500:=by omega
     have HM:=il p;rw [p]at Q;clear f1 b R u E f J K aq hE T D N p d h s H V W r;generalize l[k]=x at*;generalize l[k - 1]=x' at*;generalize y.2=n at*;go_wp2_with fail
     go_roundw
     case rel=>exact⟨k+1,by omega,by go_num,A.out,F.out⟩
     case measure=>simp [intOf];omega
    ·have B:=E.out (by rw [H];simpa using fun e=>r e.symm);have M:=il B;have an:(l[k]==l[k - 1])=false:=by simpa using r
     clear B E u f J K H;generalize l[k - 1]=x' at*;generalize l[k]=x at*;go_wp2_with (at_builtin;refine wpList_append_lies _ rfl _ _ _ rfl w.heap.size 187 i0 _ 2 16 Tryz.underlying195 aa am ag ac rfl (by omega) (.slice x1 x2 x3) (grp (l.take k)).length (iS (grp (l.take k))) rfl (iK h.out) ⟨c.heap.size,0,none⟩ 1 1 [.int .i64 x,.int .i64 0] rfl rfl (World.news_of_block (cs:= #[.int .i64 x,.int .i64 0]) (t:=187) (fr:=(0,0)) (heap_alloc_new c _)) (by simp [Value.oneCell']) (by omega) Q (by omega) (by simp;omega) (c.heap.size+1) (by simp) ?_;intro g6 a w6 C G O ar;obtain⟨f1,b,Y,X⟩:=M.out w6 g6 a C (jH (ir s.out) G (fun q e=>V q e));have A:=il f1;have F:=il b;clear f1 b C G O)
     go_roundw
     case rel=>exact⟨k+1,by omega,by go_num,A.out,F.out⟩
     case measure=>simp [intOf];omega
  ·have ek:l.take k=l:=List.take_of_length_le (by omega);have q2:(l.length:Int)<=(k:Int):=by omega
   have S:=d.out;rw [ek]at S;have ai:=il S;clear S d;go_wp2
   go_ret;exact⟨_,_,_,rfl,ai.out.1,ai.out.2⟩
def Tab(w:World):Prop:=Lib.TabIs Tryz.prog w "internal/strconv.uint64pow10" .u64 Lib.pow10Tab
theorem Tab.grown{w w':World}(h:Tab w)(a:w.grownBy w' none):Tab w':=by
 unfold Tab at*;exact(Lib.tabBelow_of_tabIs h) w' ⟨a.os,a.tape,a.output,a.size,fun k hk=>a.block k hk (by simp)⟩
theorem Cc(n:Int)(d: -9223372036854775808<=n)(b:n<=9223372036854775807)(w:World)(a:Tab w):Calls Tryz.prog 144 #[.int .i64 n] w fun e w'=>e= .returned (.string ⟨(Lib.itoa n).toArray⟩)/\w.grownBy w' none:=by
 refine(Tryz.strconv_Itoa n d b w a).mono ?_;rintro e w' ⟨rfl,k,c,rfl⟩;exact⟨rfl,kQ (Lib.below_grow _ w (Nat.le_refl _) k c)⟩
theorem zq{u:Nat}(h:u<1000):(Lib.decDigits u).length<=3:=by
 have b:∀ u,u<10->(Lib.decDigits u).length=1:=fun u h=>by rw [Lib.decDigits,dif_pos h];rfl
 have c:∀ u,u<100->(Lib.decDigits u).length<=2:=fun u h=>by
  by_cases a:u<10
  ·rw [b u a];omega
  ·rw [Lib.decDigits,dif_neg a,List.length_append,b (u / 10) (by omega)];simp
 by_cases a:u<10
 ·rw [b u a];omega
 ·have:=c (u / 10) (by omega);rw [Lib.decDigits,dif_neg a,List.length_append];simp;omega
theorem oY{n:Int}(h0:0<=n)(h:n<1000):(Lib.itoa n).length<=3:=by
 unfold Lib.itoa;rw [if_neg (by omega)];exact zq (by omega)
theorem Fg(t n:Int)(w:World)(q:Tab w)(z:0<=t)(ht1:t<=63)(hn0:1<=n)(hn1:n<=500):
  Calls Tryz.prog 108 #[.agg #[.int .i64 t,.int .i64 n]] w fun e w'=>e= .returned (.string ⟨(kV t n).toArray⟩)/\w.grownBy w' none:=by
 have u:=il q;clear q;by_cases j:n=1
 ·subst j;go_enter Tryz.func108,Tryz.ntmps108
  go_wp2_with (go_at_call 144;refine(Cc _ (by omega) (by omega) _ (u.out.grown (ir (iu _ _)))).mono ?_;rintro e w' ⟨rfl,b⟩)
  go_ret;exact⟨by simp [kV],ip (ir (iu _ _)) b⟩
 ·have hn:(n==1)=false:=by simpa using j
  go_enter Tryz.func108,Tryz.ntmps108
  have B:∀ o,Tab (w.alloc o):=fun o=>u.out.grown (ir (iu _ _))
  have call:∀ (m:Int) (v: -9223372036854775808<=m) (l:m<=9223372036854775807) (o:Obj) (d:Nat) (a:Array Obj),Calls Tryz.prog 144 #[.int .i64 m] (Sort.grow (redrawn (w.alloc o) d) a) fun e w''=>e= .returned (.string ⟨(Lib.itoa m).toArray⟩)/\∃ p:Regrown,w''=Sort.grow (redrawn (w.alloc o) p.d) p.os:=by
   intro m v l o d a;refine Calls.regrown_of ((Cc m v l _ ((B o).grown (kQ (below_regrown _ d a)))).mono ?_);rintro e w' ⟨rfl,b⟩;exact⟨rfl,b.os,b.tape,b.output,b.size,fun k hk=>b.block k hk (by simp)⟩
  obtain⟨c,i⟩:∃ c:ByteArray,c=⟨(Lib.itoa t).toArray⟩:=⟨_,rfl⟩;obtain⟨f,h⟩:∃ f:ByteArray,f=⟨(Lib.itoa n).toArray⟩:=⟨_,rfl⟩;have l1:c.size<=3:=by rw [i];simpa [ByteArray.size]using oY z (by omega)
  have l2:f.size<=3:=by rw [h];simpa [ByteArray.size]using oY (n:=n) (by omega) (by omega)
  have n1:¬9223372036854775807<c.size+1:=by omega
  have n2:¬9223372036854775807<c.size+1+f.size:=by omega
  have s:=fun o d a=>call t (by omega) (by omega) o d a
  have r:=fun o d a=>call n (by omega) (by omega) o d a
  rw [<-i]at s;rw [<-h]at r;have D:Hid ((⟨(kV t n).toArray⟩:ByteArray)=c++⟨#[42]⟩++f):=by
   unfold Hid kV;rw [if_neg j,i,h];apply ByteArray.ext;simp
  clear call i h;go_wp2_with fail
  have c0:∀ d a,(Sort.grow (redrawn (w.alloc (.cells #[.int .i64 t,.int .i64 n] 187)) d) a).cell? ⟨w.heap.size,0,none⟩=some (.int .i64 t):=fun d a=>cell_regrown (by have:=heap_alloc_new w (.cells #[.int .i64 t,.int .i64 n] 187);simp only [World.cell?,this];rfl) d a
  have c1:∀ d a,(Sort.grow (redrawn (w.alloc (.cells #[.int .i64 t,.int .i64 n] 187)) d) a).cell? ⟨w.heap.size,1,none⟩=some (.int .i64 n):=fun d a=>cell_regrown (by have:=heap_alloc_new w (.cells #[.int .i64 t,.int .i64 n] 187);simp only [World.cell?,this];rfl) d a
  refine wp_region_quiet_below (by kernel_rfl) (by kernel_rfl) ?_;repeat (quiet_step (first | exact s _ _ _ | exact r _ _ _))
  refine wpQuiet_nil ?_;intro _ x;obtain⟨⟨A,C⟩,y⟩:=x;subst y;go_wp2
  go_ret;exact⟨by rw [D.out];rfl,ip (ir (iu _ _)) (kQ (below_regrown _ A C))⟩
def wW(q:List (List UInt8)):List Value:=q.map fun x=> .string ⟨x.toArray⟩
def lR(q:List (Int × Int)):List (List UInt8):=q.map fun x=>kV x.1 x.2
theorem xE:((Tryz.prog.info? 9).map fun i=>(i.zero,i.size,i.bytes))=some (some (.string ⟨#[]⟩),1,16):=by kernel_rfl
theorem zy(q:List (Int × Int))(k:Nat)(a:k<q.length):(iS q)[k*2]?=some (.int .i64 q[k].1)/\(iS q)[k*2+1]?=some (.int .i64 q[k].2):=by
 induction q generalizing k with
 | nil=>simp at a
 | cons y q ih=>
  have b:iS (y::q)= .int .i64 y.1:: .int .i64 y.2::iS q:=rfl;cases k with
  | zero=>rw [b];simp
  | succ k=>
   have:=ih k (by simpa using a);have c:(k+1)*2=k*2+1+1:=by omega
   rw [b,c];simpa using this
theorem BT{t n:Int}(c:0<=t)(h1:t<=63)(h2:1<=n)(h3:n<=500):(kV t n).length<=7:=by
 have a:=oY c (by omega);have b:=oY (n:=n) (by omega) (by omega);unfold kV;split
 ·omega
 ·simp;omega
theorem Cv(q:List (List UInt8))(h:∀ x∈q,x.length<=7):(Lib.join q [32]).length<=8*q.length:=by
 cases q with
 | nil=>simp [Lib.join_nil]
 | cons x r=>
  rw [Lib.join_cons];have d:∀ r:List (List UInt8),(∀ x∈r,x.length<=7)->(Lib.joinTail [32] r).length<=8*r.length:=by
   intro r;induction r with
   | nil=>intro _;simp [Lib.joinTail]
   | cons y r ih=>
    intro a;have:=ih (fun x b=>a x (by simp [b]));have c:=a y (by simp);simp [Lib.joinTail]at this ⊢;omega
  have:=d r (fun y c=>h y (by simp [c]));have b:=h x (by simp);simp;omega
theorem rm{l:List Int}(h:jd l=true):∀ x∈grp l,0<=x.1/\x.1<=63/\1<=x.2/\x.2<=500:=by
 intro x b;simp only [jd,Bool.and_eq_true,decide_eq_true_eq,List.all_eq_true]at h;have:=p9 l x b;have a:=h.2 x.1 this.1;exact⟨a.1,a.2,this.2.1,by omega⟩
theorem BY(l:List Int)(v:Value)(w:World)(J:Tab w)(G:IntsAt w.heap.size w v l)(b:jd l=true):
  Calls Tryz.prog 77 #[v] w fun e w'=>e= .returned (.string ⟨(lV l).toArray⟩)/\w.grownBy w' none:=by
 obtain⟨i0,V,aq,af,aa⟩:=info_parts xE;have Z:l.length<=500:=by simp only [jd,Bool.and_eq_true,decide_eq_true_eq]at b;exact b.1
 have HT:=il J;have L:=il (F5 l v w G Z);obtain⟨ao,cap,rfl⟩:=G.form;have N:=il (rm b);have P:=pd l;clear J G b;go_enter Tryz.func77,Tryz.ntmps77
 go_wp2_with fail
 refine L.out.mono ?_;rintro e c ⟨x,y,z,rfl,E,M⟩;have C:=iC E;subst C;have A:=il E;have O:=il M;clear E M L;have HJ:Hid (lV l=Lib.join (lR (grp l)) [32]):=rfl;generalize grp l=q at*;have hq:(q.length:Int)<=500:=by omega
 go_wp2_with fail
 go_loopw [3,9] (fun lv i w'=>∃ k:Nat,k<=q.length/\i= .int .i64 k/\Hid (w'.ownsRow c.heap.size 9 1 lv k (wW (lR (q.take k)))/\c.grownBy w' none)) (fun _ i _=>q.length - (intOf i).toNat)
 case atStart=>exact⟨0,Nat.zero_le _,rfl,⟨rfl,Or.inl ⟨rfl,rfl⟩⟩,iu _ _⟩
 case round=>
  obtain⟨k,hk,rfl,p⟩:=hrel;obtain⟨a,aj⟩:∃ a,a=wr:=⟨_,rfl⟩;subst aj;obtain⟨x1,x2,x3,rfl⟩:=iy p.out.1;have r:=il p.out.1;have m:=il p.out.2;have hsz2:=p.out.2.size;have ak:=iB r.out;by_cases F:k<q.length
  ·obtain⟨g,U,f,_,_⟩:=A.out.form (by omega);simp only [Value.slice.injEq,true_and]at f;obtain⟨rfl,rfl⟩:=f;have D:=zy q k F;have d0:a.cell? ⟨g,k*2,none⟩=some (.int .i64 q[k].1):=iq m.out _ _ (by rw [A.out.cellAt _ (by omega)];exact D.1);have d1:a.cell? ⟨g,k*2+1,none⟩=some (.int .i64 q[k].2):=iq m.out _ _ (by rw [A.out.cellAt _ (by omega)];exact D.2);have b:=N.out q[k] (List.getElem_mem F);have T:Hid (wW (lR (q.take (k+1)))=wW (lR (q.take k))++[.string ⟨(kV q[k].1 q[k].2).toArray⟩]):=by
    unfold Hid wW lR;rw [List.take_succ_eq_append_getElem F,List.map_append,List.map_append];rfl
   generalize q[k]=tn at*;obtain⟨t,n⟩:=tn;simp only at d0 d1 b T;have hk0:(0:Int)<=(k:Int):=by omega
   have hk1:(k:Int)<q.length:=by omega
   have ag:k+1<=maxLen:=by unfold maxLen;omega
   have K:∀ o,Tab (a.alloc o):=fun o=>HT.out.grown (ir (ip O.out m.out))
   clear D;go_wp2_with fail
   refine(Fg t n _ (K _) b.1 b.2.1 b.2.2.1 b.2.2.2).mono ?_;rintro e w6 ⟨rfl,s⟩;have B:a.grownBy w6 none:=ip (ir (iu _ _)) s;have ah:Hid (w6.ownsRow c.heap.size 9 1 (.slice x1 x2 x3) k (wW (lR (q.take k)))):=iE r.out B (fun _ e=>by cases e);have R:Hid (c.grownBy w6 none):=ip m.out B;have hsz6:=R.out.size;clear s B K;generalize kV t n=wd at*;go_wp2_with (at_builtin;refine wpList_append_lies _ rfl _ _ _ rfl c.heap.size 9 i0 _ 1 16 Tryz.underlying24 V aq af aa rfl (by omega) (.slice x1 x2 x3) k (wW (lR (q.take k))) rfl (iK ah.out) ⟨w6.heap.size,0,none⟩ 1 1 [.string ⟨wd.toArray⟩] rfl rfl (World.news_of_block (cs:= #[.string ⟨wd.toArray⟩]) (t:=9) (fr:=(0,0)) (heap_alloc_new w6 _)) (by simp [Value.oneCell']) (by omega) ag (by omega) (by simp;omega) (w6.heap.size+1) (by simp) ?_;intro g7 W H I Q ae hlt7)
   have aw:Hid (H.ownsRow c.heap.size 9 1 (.slice (some ⟨g7,0,none⟩) (k+1) W) (k+1) (wW (lR (q.take (k+1))))/\c.grownBy H none):=by
    refine⟨?_,jH (ir R.out) Q (fun q e=>ak q e)⟩;rw [T.out];exact I
   clear I Q ae;go_wp2
   go_roundw
   case rel=>exact⟨k+1,by omega,by go_num,aw⟩
   case measure=>simp [intOf];omega
  ·have ek:k=q.length:=by omega
   have q2:(q.length:Int)<=(k:Int):=by omega
   subst ek;have h:=r.out;rw [List.take_length]at h;have X:(lR q).length=q.length:=by simp [lR]
   have ar:Hid (w.grownBy a none):=ip O.out m.out;have ay:Hid (Calls Tryz.prog 109 #[.slice x1 q.length x3,.string ⟨#[32]⟩] a fun e w'=>e= .returned (.string ⟨(Lib.join (lR q) [32]).toArray⟩)/\a.grownBy w' none):=by
    by_cases h0:q.length=0
    ·have am:q=[]:=List.length_eq_zero_iff.1 h0;subst am;refine(Tryz.strings_Join_none x1 x3 ⟨#[32]⟩ a).mono ?_;rintro e w' ⟨rfl,rfl⟩;exact⟨rfl,iu _ _⟩
    ·obtain⟨g,U,f,_,P⟩:=h.form (by omega);have hcp:q.length<=x3:=by
      rcases h.2 with ⟨_,d⟩ | ⟨_,_,_,d,_,_,e2,_⟩
      ·omega
      ·simp only [Value.slice.injEq]at d;omega
     have S:=h;rw [f]at S;simp only [Value.slice.injEq]at f;obtain⟨rfl,rfl,rfl⟩:=f;have:=Tryz.strings_Join g 0 x3 ((lR q).map fun x=>(⟨x.toArray⟩:ByteArray)) ⟨#[32]⟩ a (fun j x hj=>?_) P (by simp;omega) (by simp;omega) ?_
     ·simp only [List.length_map,X,List.map_map]at this;have d:((fun(x:ByteArray)=>x.data.toList) ∘ fun x:List UInt8=>(⟨x.toArray⟩:ByteArray))=id:=by funext x;rfl
      rw [d,List.map_id]at this;refine this.mono ?_;rintro e w' ⟨rfl,Y⟩;exact⟨rfl,kQ Y⟩
     ·have ab:=(List.getElem?_eq_some_iff.1 hj).1;rw [Nat.zero_add,S.cellAt j (by simp at ab;omega)];unfold wW;rw [List.getElem?_map]at hj ⊢;cases hw:(lR q)[j]? with
      | none=>rw [hw]at hj;cases hj
      | some u=>rw [hw]at hj;simp at hj;simp [hj]
     ·have:=Cv (lR q) (fun x hx=>by
       simp only [lR,List.mem_map]at hx;obtain⟨y,C,rfl⟩:=hx;have:=N.out y C;exact BT this.1 this.2.1 this.2.2.1 this.2.2.2)
      have d:((fun(x:ByteArray)=>x.data.toList) ∘ fun x:List UInt8=>(⟨x.toArray⟩:ByteArray))=id:=by funext x;rfl
      rw [List.map_map,d,List.map_id];simp only at this ⊢;omega
   have ax:=iC h;subst ax;clear h r p;go_wp2_with (go_at_call 109;refine ay.out.mono ?_;rintro e w6 ⟨rfl,s⟩)
   go_ret;exact⟨by rw [HJ.out];rfl,ip ar.out s⟩
theorem D3(l:List Int)(v:Value)(w:World)(f:Tab w)(b:IntsAt w.heap.size w v l):
  Calls Tryz.prog 47 #[v] w fun e w'=>w.grownBy w' none/\((jd l=true/\e= .returned (.tuple #[.string ⟨(lV l).toArray⟩,.int .i64 0]))\/(jd l=false/\e= .returned (.tuple #[.string ⟨#[]⟩,.int .i64 2]))):=by
 have j:=il f;have d:=il b;obtain⟨ao,cap,rfl⟩:=b.form;clear f b;go_enter Tryz.func47,Tryz.ntmps47
 go_wp2_with fail
 refine(zt l _ w d.out).mono ?_;rintro e k ⟨rfl,c⟩;have a:=il c;clear c;cases hv:jd l with
 | false=>
  go_wp2_with fail
  refine bodyPost_ret (v:= .tuple #[.string ⟨#[]⟩,.int .i64 2]) (by simp [results,Tryz.results47,go_sem]) rfl ?_;exact⟨a.out,Or.inr ⟨hv,rfl⟩⟩
 | true=>
  have h:=il (BY l _ k (j.out.grown a.out) ((d.out.pres (iq a.out)).mono a.out.size) hv);go_wp2_with (go_at_call 77;refine h.out.mono ?_;rintro e w2 ⟨rfl,i⟩)
  refine bodyPost_ret (v:= .tuple #[.string ⟨(lV l).toArray⟩,.int .i64 0]) (by simp [results,Tryz.results47,go_sem]) rfl ?_;exact⟨ip a.out i,Or.inl ⟨hv,rfl⟩⟩
theorem AS(l:List Nat)(h:(jN l).ok=true):(jN l).at_=0:=by
 rw [pT]at h ⊢;unfold lF at*;split at h<;>rename_i h1
 ·rw [if_pos h1]
 ·rw [if_neg h1];cases hw:jl (ja l) (-1) []with
  | none=>rw [hw]at h;cases h
  | some x=>
   rw [hw]at h;simp only at h ⊢;split at h
   ·cases h
   ·rename_i h2;rw [if_neg h2]
theorem AR(l:List Nat)(h:(jN l).ok=false):(jN l).out=[]:=by
 rw [pT]at h ⊢;unfold lF at*;split at h<;>rename_i h1
 ·cases h
 ·rw [if_neg h1];cases hw:jl (ja l) (-1) []with
  | none=>rfl
  | some x=>
   rw [hw]at h;simp only at h ⊢;split at h
   ·rename_i h2;rw [if_pos h2]
   ·cases h
def FR(ok:Bool):Int:=if ok=true then 0 else 4
theorem DD(s:ByteArray)(w:World)(h:s.size<=9223372036854775806):
  Calls Tryz.prog 45 #[.string s] w fun e w'=>∃ x y z,e= .returned (.tuple #[.slice x y z,.int .i64 (jN (byt s)).at_,.int .i64 (FR (jN (byt s)).ok)])/\w'.ownsRow (w.heap.size+1) 3 1 (.slice x y z) (jN (byt s)).out.length (iM (jN (byt s)).out)/\w.grownBy w' none:=by
 go_enter Tryz.func45,Tryz.ntmps45
 go_wp2_with fail
 refine(CL s w h).mono ?_;rintro e w1 ⟨x,y,z,rfl,c,b⟩;have f:=il c;have d:=il b;clear c b;cases hok:(jN (byt s)).ok with
 | true=>
  have a:(jN (byt s)).at_=0:=by
   have:=(AS (byt s)) hok;exact this
  rw [a];go_wp2_with fail
  refine bodyPost_ret (v:= .tuple #[.slice x y z,.int .i64 0,.int .i64 0]) (by simp [results,Tryz.results45,go_sem]) rfl ?_;exact⟨x,y,z,by rw [a,hok];rfl,f.out,d.out⟩
 | false=>
  have a:=AR (byt s) hok;go_wp2_with fail
  refine bodyPost_ret (v:= .tuple #[.slice none 0 0,.int .i64 (jN (byt s)).at_,.int .i64 4]) (by simp [results,Tryz.results45,go_sem]) rfl ?_;refine⟨none,0,0,by rw [hok];rfl,?_,d.out⟩;rw [a];exact⟨rfl,Or.inl ⟨rfl,rfl⟩⟩
end
end Go.Proofs.YtklenjmfalljgabGreatDoor
