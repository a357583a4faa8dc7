/- The texts Scn3 Par Prn Prn2. -/
import Derived.Test.YtklenjmfalljgabGreatDoorM02
import Derived.Test.YtklenjmfalljgabGreatDoorM16
import Derived.Test.YtklenjmfalljgabGreatDoorShelf
import Derived.Lib.QuietBelow
import Derived.Lib.AppendIntMem
namespace Go.Proofs.YtklenjmfalljgabGreatDoor
set_option maxRecDepth 100000
set_option maxHeartbeats 8000000
section
open Go.RowKit
attribute [local go_sem] Go.World.cell?_alloc_some
def runT(s:ByteArray)(a:Nat)(last:Int):RunP:=runP last ((byt s).drop a)
theorem AT{s:ByteArray}{a:Nat}{last:Int}(h:(thrOk last (thr last (-1) ((byt s).drop a)).1 && hitB s (a+(thr last (-1) ((byt s).drop a)).2) 42)=false):
  runT s a last=⟨(thr last (-1) ((byt s).drop a)).1,1,thrOk last (thr last (-1) ((byt s).drop a)).1,(thr last (-1) ((byt s).drop a)).2⟩:=by
 unfold runT runP;rw [if_neg];unfold hitB at h;rw [List.getElem?_drop,h];simp
theorem ze{s:ByteArray}{a:Nat}{last:Int}(c:thrOk last (thr last (-1) ((byt s).drop a)).1=true)(b:hitB s (a+(thr last (-1) ((byt s).drop a)).2) 42=true):
  runT s a last=⟨(thr last (-1) ((byt s).drop a)).1,(cnt 0 ((byt s).drop (a+(thr last (-1) ((byt s).drop a)).2+1))).1,decide (1<(cnt 0 ((byt s).drop (a+(thr last (-1) ((byt s).drop a)).2+1))).1),
   (thr last (-1) ((byt s).drop a)).2+1+(cnt 0 ((byt s).drop (a+(thr last (-1) ((byt s).drop a)).2+1))).2⟩:=by
 unfold runT runP;unfold hitB at b;rw [if_pos (by rw [List.getElem?_drop,c,b];rfl),List.drop_drop];simp only [Nat.add_assoc]
def RunTx(s:ByteArray)(b a:Nat)(last:Int)(w:World)(e:Ending)(w':World):Prop:=
 w.grownBy w' (some b)/\e= .returned (.tuple #[.agg #[.int .i64 (runT s a last).thread,.int .i64 (runT s a last).count],.bool (runT s a last).ok])/\ScAt w' b s (a+(runT s a last).len)/\
  0<=(runT s a last).count/\(runT s a last).count<=501/\ -1<=(runT s a last).thread/\(runT s a last).thread<=63
theorem ScAt.grown{w w':World}{b:Nat}{s:ByteArray}{a:Nat}(h:ScAt w b s a)(c:w.grownBy w' none):ScAt w' b s a:=by
 have d:=h.lt;unfold ScAt at*;rw [c.block b d (by simp)];exact h
theorem ScAt.setOther{w:World}{b g o:Nat}{v:Value}{s:ByteArray}{a:Nat}(h:ScAt w b s a)(c:b≠g):ScAt (w.setCell ⟨g,o,none⟩ v) b s a:=by
 unfold ScAt at*;rw [Below.heap_setCell _ _ _ _ (by simpa using c)];exact h
theorem BV(s:ByteArray)(b a:Nat)(last:Int)(w:World)(h:ScAt w b s a)(ha:a<=s.size)(K:s.size<=9223372036854775806):
  Calls Tryz.prog 101 #[pt b,.int .i64 last] w (RunTx s b a last w):=by
 have hb:=h.lt;have W:=ij h;clear h;have aj:pt b= .pointer (some ⟨b,0,none⟩):=rfl;rw [aj];go_enter Tryz.func101,Tryz.ntmps101
 go_wp2_with fail
 refine(zt s b a last _ (W.out.grown (iq (ir _ _))) ha K).mono ?_;rintro e j ⟨t,rfl,R,J,I⟩;have U:w.grownBy j (some b):=il (iq (ir _ _)) t;have an:w.heap.size<j.heap.size:=by have:=t.size;simp at this;omega
 have Q:j.heap[w.heap.size]?=some (.cells #[.int .i64 0,.int .i64 0] 187 (0,0)):=by
  rw [t.block w.heap.size (by simp) (by simp;omega)];exact heap_alloc_new w _
 have N:=ij U;have M:=ij R;have p:=ij Q;have ai:a+(thr last (-1) ((byt s).drop a)).2<=s.size:=by
  have:=vf last (-1) ((byt s).drop a);rw [List.length_drop,iL]at this;omega
 have F:= @AT s a last;have P:= @ze s a last;clear t U R Q;generalize thr last (-1) ((byt s).drop a)=T at*;obtain⟨n,k⟩:=T;simp only at*;have fin:∀ (d:World) (x y:Int) (z:Bool) (l:Nat),runT s a last=⟨x,y,z,l⟩->w.grownBy d (some b)->ScAt d b s (a+l)->d.heap[w.heap.size]?=some (.cells #[.int .i64 0,.int .i64 0] 187 (0,0))->0<=y->y<=501-> -1<=x->x<=63->
   RunTx s b a last w (.returned (.tuple #[.agg #[.int .i64 x,.int .i64 y],.bool z])) ((d.setCell ⟨w.heap.size,0,none⟩ (.int .i64 x)).setCell ⟨w.heap.size,1,none⟩ (.int .i64 y))/\
   ((d.setCell ⟨w.heap.size,0,none⟩ (.int .i64 x)).setCell ⟨w.heap.size,1,none⟩ (.int .i64 y)).heap[w.heap.size]?=some (.cells #[.int .i64 x,.int .i64 y] 187 (0,0)):=by
  intro d x y z l hr hg am al h1 h2 h3 h4;refine⟨?_,?_⟩
  ·unfold RunTx;rw [hr];exact⟨iD (iD hg (Nat.le_refl _)) (Nat.le_refl _),rfl,(am.setOther (by omega)).setOther (by omega),h1,h2,h3,h4⟩
  ·rw [heap_setCell_same _ _ 1 _ _ _ (heap_setCell_same _ _ 0 _ _ _ al)];rfl
 have D:=ij fin;have hne:w.heap.size≠b:=by omega
 have z1:j.cell? ⟨w.heap.size,0,none⟩=some (.int .i64 0):=by have:=p.out;simp [World.cell?,this]
 have z2:j.cell? ⟨w.heap.size,1,none⟩=some (.int .i64 0):=by have:=p.out;simp [World.cell?,this]
 have z3:j.frozen? ⟨w.heap.size,0,none⟩=false:=by have:=p.out;simp [World.frozen?,this]
 have z4:j.frozen? ⟨w.heap.size,1,none⟩=false:=by have:=p.out;simp [World.frozen?,this]
 clear fin;cases hok:thrOk last n with
 | false=>
  have i:=F (by rw [hok];rfl);rw [hok]at i;go_wp2_with fail
  obtain⟨f1,f⟩:=D.out j n 1 false k i N.out M.out p.out (by omega) (by omega) J I;refine bodyPost_ret (v:= .tuple #[.agg #[.int .i64 n,.int .i64 1],.bool false]) ?_ rfl f1;have A:=cell_of_row _ _ 0 _ _ _ f;have B:=cell_of_row _ _ 1 _ _ _ f;simp at A B;simp [results,Tryz.results101,go_sem,A,B]
 | true=>
  go_wp2_with (go_at_call 100;refine(rJ s b _ 42 _ M.out ai K).mono ?_)
  rintro e d ⟨u,rfl,m⟩;have O:Hid (w.grownBy d (some b)):=il N.out u;have q:d.heap[w.heap.size]?=some (.cells #[.int .i64 0,.int .i64 0] 187 (0,0)):=by
   rw [u.block w.heap.size an (by simp;omega)];exact p.out
  have ao:w.heap.size<d.heap.size:=by have:=u.size;omega
  have A:d.cell? ⟨w.heap.size,0,none⟩=some (.int .i64 0):=by simp [World.cell?,q]
  have B:d.cell? ⟨w.heap.size,1,none⟩=some (.int .i64 0):=by simp [World.cell?,q]
  have y3:d.frozen? ⟨w.heap.size,0,none⟩=false:=by simp [World.frozen?,q]
  have y4:d.frozen? ⟨w.heap.size,1,none⟩=false:=by simp [World.frozen?,q]
  have L:=ij q;clear u q z1 z2 z3 z4;unfold skAt at m;cases hit:hitB s (a+k) 42 with
  | false=>
   have i:=F (by rw [hit];simp);rw [hok]at i;rw [hit,if_neg (by simp)]at m;have E:=ij m;clear m;go_wp2_with fail
   obtain⟨f1,f⟩:=D.out d n 1 true k i O.out E.out L.out (by omega) (by omega) J I;refine bodyPost_ret (v:= .tuple #[.agg #[.int .i64 n,.int .i64 1],.bool true]) ?_ rfl f1;have x1:=cell_of_row _ _ 0 _ _ _ f;have x2:=cell_of_row _ _ 1 _ _ _ f;simp at x1 x2;simp [results,Tryz.results101,go_sem,x1,x2]
  | true=>
   have i:=P hok hit;rw [hit,if_pos rfl]at m;have E:=ij m;have hlt:a+k<s.size:=by
    unfold hitB at hit;have:(byt s)[a+k]?=some 42:=by simpa using hit
    have:=jt this;rwa [iL]at this
   clear m F P;have e1:a+k+1=a+(k+1):=by omega
   have G:=zT s b (a+k+1) d E.out (by omega) K;generalize cnt 0 ((byt s).drop (a+k+1))=C at*;obtain⟨c,l⟩:=C;simp only at G i;have V:=ij G;clear G;go_wp2_with (go_at_call 143;refine V.out.mono ?_)
   rintro e o ⟨H,rfl,S,af,ag⟩;have Z:Hid (w.grownBy o (some b)):=il O.out H;have r:o.heap[w.heap.size]?=some (.cells #[.int .i64 0,.int .i64 0] 187 (0,0)):=by
    rw [H.block w.heap.size ao (by simp;omega)];exact L.out
   have x1:o.cell? ⟨w.heap.size,0,none⟩=some (.int .i64 0):=by simp [World.cell?,r]
   have x2:o.cell? ⟨w.heap.size,1,none⟩=some (.int .i64 0):=by simp [World.cell?,r]
   have x3:o.frozen? ⟨w.heap.size,0,none⟩=false:=by simp [World.frozen?,r]
   have x4:o.frozen? ⟨w.heap.size,1,none⟩=false:=by simp [World.frozen?,r]
   have X:=ij r;have Y:=ij S;clear H r S A B y3 y4;go_wp2_with fail
   all_goals
    obtain⟨f1,f⟩:=D.out o n c (decide (1<c)) (k+1+l) (by rw [i]) Z.out (by have:=Y.out;rwa [show a+k+1+l=a+(k+1+l) by omega]at this) X.out af ag J I;refine bodyPost_ret (v:= .tuple #[.agg #[.int .i64 n,.int .i64 c],.bool (decide (1<c))]) ?_ rfl f1;have x1:=cell_of_row _ _ 0 _ _ _ f;have x2:=cell_of_row _ _ 1 _ _ _ f;simp at x1 x2;simp [results,Tryz.results101,go_sem,x1,x2]
theorem yt(l:List Int)(t:Int)(k:Nat):ints (l++List.replicate (k+1) t)=ints (l++List.replicate k t)++[.int .i64 t]:=by
 rw [List.replicate_succ',<-List.append_assoc,wq]
theorem rP(a w:World)(r:Option Nat)(sv:Value)(l:List Int)(t:Int)(c:Nat)(h:w.ownsRow a.heap.size 3 1 sv l.length (ints l))(E:a.grownBy w r)(hc:c<=501)(hl:l.length<=501):
  Calls Tryz.prog 102 #[sv,.agg #[.int .i64 t,.int .i64 c]] w fun e w'=>∃ sv',e= .returned sv'/\w'.ownsRow a.heap.size 3 1 sv' (l++List.replicate c t).length (ints (l++List.replicate c t))/\a.grownBy w' r/\w.grownBy w' sv.ownBlock/\((∃ x y z,sv'= .slice x y z)):=by
 obtain⟨Z,S,W,X,Y⟩:=info_parts ji;obtain⟨u,A,v,rfl⟩:=iw h;have J:=ij h;have O:=ij E;have hW0:=E.size;clear h E;go_enter Tryz.func102,Tryz.ntmps102
 go_wp2_with fail
 go_loopw [0,7] (fun lv i w'=>∃ k:Nat,k<=c/\i= .int .i64 k/\Hid (w'.ownsRow a.heap.size 3 1 lv (l.length+k) (ints (l++List.replicate k t))/\a.grownBy w' r/\w'.heap[w.heap.size]?=some (.cells #[.int .i64 t,.int .i64 c] 187 (0,0))/\lv.ownBlock≠some w.heap.size/\w.grownBy w' (Value.slice u A v).ownBlock/\∀ k,lv.ownBlock=some k->(Value.slice u A v).ownBlock=some k\/w.heap.size<=k)) (fun _ i _=>c - (intOf i).toNat)
 case atStart=>
  refine⟨0,Nat.zero_le _,rfl,?_,iq O.out,heap_alloc_new _ _,?_,iq (ir _ _),fun k e=>Or.inl e⟩
  ·simpa using iG (o:= .cells #[.int .i64 t,.int .i64 c] 187) J.out
  ·intro e;rcases J.out.2 with ⟨e1,_⟩ | ⟨g,cap,cur,hv,_,hh,_⟩
   ·rw [e1]at e;cases e
   ·rw [hv]at e;simp [Value.ownBlock]at e;have:=(Array.getElem?_eq_some_iff.1 hh).1;omega
 case round=>
  obtain⟨k,hk,rfl,I⟩:=hrel;obtain⟨b,V⟩:∃ b,b=wr:=⟨_,rfl⟩;subst V;obtain⟨j,p,m,G,s,H⟩:=I.out;have d0:b.cell? ⟨w.heap.size,0,none⟩=some (.int .i64 t):=by simp [World.cell?,m]
  have d1:b.cell? ⟨w.heap.size,1,none⟩=some (.int .i64 c):=by simp [World.cell?,m]
  have T:w.heap.size<b.heap.size:=(Array.getElem?_eq_some_iff.1 m).1;by_cases hkl:k<c
  ·have q3:(k:Int)<c:=by omega
   have R:l.length+k+1<=maxLen:=by unfold maxLen;omega
   have U:=iA j;have B:=ij j;have n:=ij p;have P:=ij m;have K:=ij G;have C:=ij s;have L:=ij H;have hn:b.heap.size≠w.heap.size:=by omega
   clear j p m G s H;go_wp2_with (at_builtin;refine wpList_append_lies _ rfl _ _ _ rfl a.heap.size 3 Z _ 1 8 Tryz.underlying39 S W X Y rfl (by omega) u0 (l.length+k) (ints (l++List.replicate k t)) rfl (iG B.out) ⟨b.heap.size,0,none⟩ 1 1 [.int .i64 t] rfl rfl (World.news_of_block (cs:= #[.int .i64 t]) (t:=3) (fr:=(0,0)) (heap_alloc_new b _)) (by simp [Value.oneCell']) (by omega) R (by omega) (by simp;have:=n.out.size;omega) (b.heap.size+1) (by simp) ?_;intro g6 D w6 M d F hlt6)
   have N:Hid (w6.ownsRow a.heap.size 3 1 (.slice (some ⟨g6,0,none⟩) (l.length+k+1) D) (l.length+(k+1)) (ints (l++List.replicate (k+1) t))/\a.grownBy w6 r/\w6.heap[w.heap.size]?=some (.cells #[.int .i64 t,.int .i64 c] 187 (0,0))/\(Value.slice (some ⟨g6,0,none⟩) (l.length+k+1) D).ownBlock≠some w.heap.size/\w.grownBy w6 (Value.slice u A v).ownBlock/\∀ q,(Value.slice (some ⟨g6,0,none⟩) (l.length+k+1) D).ownBlock=some q->(Value.slice u A v).ownBlock=some q\/w.heap.size<=q):=by
    refine⟨?_,iZ (iq n.out) d (fun q e=>U q e),?_,?_,?_,?_⟩
    ·rw [yt];exact M
    ·rw [d.block _ (by simp;omega) (fun e=>K.out e.symm),Below.heap_alloc _ _ _ T];exact P.out
    ·simp only [Value.ownBlock];rcases F with e | e
     ·rw [<-e];exact K.out
     ·rw [e];simp;omega
    ·have f:=iq (o:= .cells #[.int .i64 t] 3) C.out;refine⟨d.os.trans f.os,d.tape.trans f.tape,d.output.trans f.output,Nat.le_trans f.size d.size,fun q hq hr=>?_⟩;rw [d.block q (Nat.lt_of_lt_of_le hq f.size) (fun e=>by
      rcases L.out q e.symm with e2 | e2
      ·exact hr e2.symm
      ·omega)]
     exact f.block q hq hr
    ·intro q e;rcases F with e2 | e2
     ·exact L.out q (by rw [e2];exact e)
     ·right
      simp only [Value.ownBlock,Option.some.injEq]at e;omega
   clear M d F;go_wp2
   go_roundw
   case rel=>exact⟨k+1,by omega,by go_num,N⟩
   case measure=>simp [intOf];omega
  ·have Q:k=c:=by omega
   have q2:(c:Int)<=(k:Int):=by omega
   subst Q;have B:=ij j;have n:=ij p;obtain⟨m1,m2,m3,rfl⟩:=iw j;have C:=ij s;clear j p m G s H I;go_wp2
   go_ret;exact⟨_,rfl,by simpa using B.out,n.out,C.out,_,_,_,rfl⟩
def endP(s:ByteArray)(sch:List Int)(total:Int)(a:Nat):ParP:=if a<s.size then ⟨[],a,false⟩ else if total=501 then ⟨[],0,false⟩ else ⟨sch,0,true⟩
theorem yC{f:Nat}{b:List Int}{last c:Int}{a:Nat}{s:ByteArray}(h:(runT s a last).ok=false):loopP (f+1) b last c a ((byt s).drop a)=⟨[],a+(runT s a last).len,false⟩:=by
 rw [loopP];unfold runT at*;rw [if_neg (by rw [h];simp)]
theorem nt{f:Nat}{d:List Int}{last b:Int}{a:Nat}{s:ByteArray}(h:(runT s a last).ok=true)(c:hitB s (a+(runT s a last).len) 32=true):
  loopP (f+1) d last b a ((byt s).drop a)=loopP f (addRun d (min (b+(runT s a last).count) 501) (runT s a last).count (runT s a last).thread) (runT s a last).thread (min (b+(runT s a last).count) 501) (a+(runT s a last).len+1) ((byt s).drop (a+(runT s a last).len+1)):=by
 have e:(byt s)[a+(runT s a last).len]?=some 32:=by unfold hitB at c;simpa using c
 have i:=kD e;rw [loopP];unfold runT at*;rw [if_pos h,List.drop_drop,i];simp only [if_true]
theorem oN{f:Nat}{i:List Int}{last e:Int}{a:Nat}{s:ByteArray}(h:(runT s a last).ok=true)(d:hitB s (a+(runT s a last).len) 32=false):
  loopP (f+1) i last e a ((byt s).drop a)=endP s (addRun i (min (e+(runT s a last).count) 501) (runT s a last).count (runT s a last).thread) (min (e+(runT s a last).count) 501) (a+(runT s a last).len):=by
 unfold hitB at d;rw [loopP];unfold runT endP at*;rw [if_pos h,List.drop_drop];cases h3:(byt s)[a+(runP last ((byt s).drop a)).len]? with
 | none=>
  have b:=List.getElem?_eq_none_iff.1 h3;rw [List.drop_eq_nil_of_le b];rw [iL]at b;rw [if_neg (show ¬a+(runP last ((byt s).drop a)).len<s.size by omega)]
 | some c=>
  have j:=kD h3;have b:=jt h3;rw [iL]at b;rw [j,if_pos b];rw [h3]at d;have:c≠32:=by simpa using d
  simp only [if_neg this]
structure ParIn(W0:World)(b:Nat)(s:ByteArray)(f:Nat)(sch:List Int)(last total:Int)(a:Nat)(w':World):Prop where
 grown:W0.grownBy w' (some b)
 sc:ScAt w' b s a
 le:a<=s.size
 lo: -1<=last
 hi:last<=63
 t0:0<=total
 t1:total<=501
 sl:(sch.length:Int)<=total
 fu:s.size - a<f
 eq:loopP f sch last total a ((byt s).drop a)=parseP (byt s)
structure ParEnd(W0:World)(b:Nat)(s:ByteArray)(sch:List Int)(total:Int)(a:Nat)(w':World):Prop where
 grown:W0.grownBy w' (some b)
 sc:ScAt w' b s a
 le:a<=s.size
 t0:0<=total
 t1:total<=501
 sl:(sch.length:Int)<=total
 eq:endP s sch total a=parseP (byt s)
def mPar(m:Value)(w:World)(b n:Nat):Nat:=match m with
 | .bool true=>n+1 - atOf w b
 | _=>0
def ParsedAt(s:ByteArray)(w:World)(e:Ending)(w':World):Prop:=
 ∃ x y z,e= .returned (.tuple #[.slice x y z,.int .i64 (parseP (byt s)).at_,.bool (parseP (byt s)).ok])/\w'.ownsRow (w.heap.size+1) 3 1 (.slice x y z) (parseP (byt s)).out.length (ints (parseP (byt s)).out)/\w.grownBy w' none
theorem zd(s:ByteArray)(a:Nat)(last:Int)(ha:a<=s.size):a+(runT s a last).len<=s.size:=by
 have:=(vr last ((byt s).drop a)).len;rw [List.length_drop,iL]at this;unfold runT;omega
theorem yW(s:ByteArray)(w:World)(hs:s.size<=9223372036854775806):
  Calls Tryz.prog 72 #[.string s] w (ParsedAt s w):=by
 obtain⟨b,N⟩:∃ b,b=w.heap.size:=⟨_,rfl⟩;obtain⟨n,M⟩:∃ n,n=w.alloc (.cells #[.string s,.int .i64 0] 184):=⟨_,rfl⟩;have aK:ScAt n b s 0:=by unfold ScAt;rw [M,N];exact heap_alloc_new w _
 have aE:n.heap.size=b+1:=by rw [M,N];simp
 have P:w.grownBy n none:=by rw [M];exact iq (ir _ _)
 have au:Hid (∀ w',n.grownBy w' (some b)->w.grownBy w' none):=by
  intro w' h;refine⟨h.os.trans P.os,h.tape.trans P.tape,h.output.trans P.output,Nat.le_trans P.size h.size,fun k hk _=>?_⟩;rw [h.block k (by omega) (by simp;omega)];exact P.block k hk (by simp)
 have aA:=ij aK;clear aK;have fin:∀ u,n.grownBy u (some b)->∀ (x:Option Addr) (y z:Nat) (p:ParP),p=parseP (byt s)->u.ownsRow (b+1) 3 1 (.slice x y z) p.out.length (ints p.out)->ParsedAt s w (.returned (.tuple #[.slice x y z,.int .i64 p.at_,.bool p.ok])) u:=by
  intro u hg x y z p C ho;subst C;exact⟨x,y,z,rfl,by rw [<-N];exact ho,au.out _ hg⟩
 have T:=ij fin;clear fin au;have aI:∀ u:World,u.ownsRow (b+1) 3 1 (.slice none 0 0) ([]:List Int).length (ints []):=fun u=>⟨rfl,Or.inl ⟨rfl,rfl⟩⟩
 have V:=ij aI;clear aI;go_enter Tryz.func72,Tryz.ntmps72
 by_cases O:s.size=0
 ·obtain rfl:s=⟨#[]⟩:=by
   obtain⟨d⟩:=s;simp [ByteArray.size]at O;rw [O]
  go_wp2_with fail
  rw [<-M,<-N];clear M N P;go_loopw [5,8,9] (fun sv t m w'=>sv= .slice none 0 0/\t= .int .i64 0/\m= .bool false/\w'=n) (fun _ _ _ _=>0)
  case atStart=>exact⟨rfl,rfl,rfl,rfl⟩
  case round=>
   obtain⟨rfl,rfl,rfl,rfl⟩:=hrel;have c1:wr.cell? ⟨b,1,none⟩=some (.int .i64 0):=aA.out.c1;have af:(⟨#[]⟩:ByteArray).size=0:=rfl;go_wp2_with fail
   refine bodyPost_ret (v:= .tuple #[.slice none 0 0,.int .i64 0,.bool true]) (by simp [results,Tryz.results72,go_sem]) rfl ?_;exact T.out _ (ir _ _) none 0 0 ⟨[],0,true⟩ rfl (V.out _)
 ·have aV:s≠⟨#[]⟩:=by intro e;rw [e]at O;simp [ByteArray.size]at O
  go_wp2_with fail
  rw [<-M,<-N];have H0:Hid (ParIn n b s (s.size+1) [] (-1) 0 0 n):=by
   refine⟨ir _ _,aA.out,by omega,by omega,by omega,by omega,by omega,by simp,by omega,?_⟩;unfold parseP;rw [if_neg (by intro e;have:=congrArg List.length e;rw [iL]at this;exact O this),iL];rfl
  have hbW:b<n.heap.size:=by omega
  have aG:s.toList.isEmpty=false:=by
   rw [ByteArray.toList_eq];cases hd:s.data.toList with
   | nil=>exact absurd (by have:=congrArg List.length hd;simpa using this) O
   | cons a b=>rfl
  rw [aG,Bool.not_false];clear aV O M P aG;clear N;go_loopw [5,7,8,9] (fun sv l t m w'=>∃ (j:List Int) (f:Nat) (last q:Int) (mb:Bool) (i:Nat),l= .int .i64 last/\t= .int .i64 q/\m= .bool mb/\Hid ((mb=true/\ParIn n b s f j last q i w')\/(mb=false/\ParEnd n b s j q i w'))/\Hid (w'.ownsRow (b+1) 3 1 sv j.length (ints j))) (fun _ _ _ m w'=>mPar m w' b s.size)
  case atStart=>exact⟨[],s.size+1, -1,0,true,0,rfl,rfl,rfl,ij (Or.inl ⟨rfl,H0.out⟩),ij (V.out _)⟩
  case round=>
   obtain⟨j,f,last,q,mb,i,rfl,rfl,rfl,HI,HO⟩:=hrel;obtain⟨x1,x2,x3,rfl⟩:=iw HO.out;rcases HI.out with ⟨rfl,C⟩ | ⟨rfl,C⟩
   ·have B:=ij C;have Q:Hid (atOf wr b=i):=jI C.sc;obtain⟨f,rfl⟩:∃ f',f=f'+1:=⟨f - 1,by have:=C.fu;omega⟩;have am:=C.le;have ht0:=C.t0;have ht1:=C.t1;have hsl:=C.sl;have hfu:=C.fu;clear C HI;go_wp2_with fail
    refine(BV s b i last _ B.out.sc am hs).mono ?_;rintro e S ⟨al,rfl,af,aR,hc1,aq,ap⟩;have an:=zd s i last am;have av:Hid (n.grownBy S (some b)):=il B.out.grown al;have aP:Hid (S.ownsRow (b+1) 3 1 (.slice x1 x2 x3) j.length (ints j)):=iC HO.out al (fun k e=>by simp at e;omega);have ay:=ij af;have hsz1:=af.lt;clear al af HO;cases hok:(runT s i last).ok with
    | false=>
     have HB:Hid (parseP (byt s)=⟨[],i+(runT s i last).len,false⟩):=by
      unfold Hid;rw [<-B.out.eq];exact yC hok
     have c1:=ay.out.c1;go_wp2_with fail
     go_quiet (fail)
     go_wp2_with fail
     refine bodyPost_ret (v:= .tuple #[.slice none 0 0,.int .i64 ((i+(runT s i last).len:Nat):Int),.bool false]) (by simp [results,Tryz.results72,go_sem]) rfl ?_;exact T.out _ (iO _ (iq av.out)) none 0 0 ⟨[],i+(runT s i last).len,false⟩ HB.out.symm (V.out _)
    | true=>
     have aw:∀ o,n.grownBy (S.alloc o) (some b):=fun o=>iq av.out
     have ax:∀ o,(S.alloc o).ownsRow (b+1) 3 1 (.slice x1 x2 x3) j.length (ints j):=fun o=>iG aP.out
     have aB:∀ o,ScAt (S.alloc o) b s (i+(runT s i last).len):=fun o=>ay.out.grown (iq (ir _ _))
     obtain⟨K,aa⟩:∃ K,K=S.alloc (.cells #[.int .i64 (runT s i last).thread,.int .i64 (runT s i last).count] 187):=⟨_,rfl⟩;have ac:Hid (K.ownsRow (b+1) 3 1 (.slice x1 x2 x3) j.length (ints j)):=by rw [aa];exact ax _
     have W:Hid (ScAt K b s (i+(runT s i last).len)):=by rw [aa];exact aB _
     have ai:Hid (n.grownBy K (some b)):=by rw [aa];exact aw _
     clear aw ax aB;have ak:=ij aa;clear aa;by_cases hm:501<q+(runT s i last).count
     ·have L:Hid (min (q+(runT s i last).count) 501=501):=by unfold Hid;omega
      have I:Hid (addRun j 501 (runT s i last).count (runT s i last).thread=j):=by
       unfold Hid addRun;rw [if_neg (by omega)]
      have J:(j.length:Int)<=501:=by omega
      have aL:b<K.heap.size:=W.out.lt;have Y:i+(runT s i last).len<=s.size:=an;go_wp2_with fail
      rw [<-ak.out];refine(rJ s b _ 32 _ W.out Y hs).mono ?_;rintro e u ⟨D,rfl,r⟩;have H:Hid (u.ownsRow (b+1) 3 1 (.slice x1 x2 x3) j.length (ints j)):=iC ac.out D (fun k e=>by simp at e;omega);have G:Hid (n.grownBy u (some b)):=il ai.out D;unfold skAt at r;cases hit:hitB s (i+(runT s i last).len) 32 with
      | true=>
       rw [hit,if_pos rfl]at r;have A:Hid (ParIn n b s f j (runT s i last).thread 501 (i+(runT s i last).len+1) u):=by
        have R:i+(runT s i last).len<s.size:=by
         unfold hitB at hit;have:=jt (show (byt s)[i+(runT s i last).len]?=some 32 by simpa using hit);rwa [iL]at this
        exact⟨G.out,r,by omega,aq,ap,by omega,by omega,J,by omega,by have e:=B.out.eq;rw [nt hok hit,L.out,I.out]at e;exact e⟩
       clear D r;go_wp2_with fail
       go_roundw
       case rel=>exact⟨j,f,(runT s i last).thread,501,true,i+(runT s i last).len+1,rfl,rfl,rfl,ij (Or.inl ⟨rfl,A.out⟩),H⟩
       case measure=>
        have X:=jI A.out.sc;have E:=Q.out;have e3:=A.out.le;simp only [mPar,X,E];omega
      | false=>
       rw [hit,if_neg (by simp)]at r;have A:Hid (ParEnd n b s j 501 (i+(runT s i last).len) u):=
        ⟨G.out,r,by omega,by omega,by omega,J,by have e:=B.out.eq;rw [oN hok hit,L.out,I.out]at e;exact e⟩
       clear D r;go_wp2_with fail
       go_roundw
       case rel=>exact⟨j,f,(runT s i last).thread,501,false,i+(runT s i last).len,rfl,rfl,rfl,ij (Or.inr ⟨rfl,A.out⟩),H⟩
       case measure=>
        have E:=Q.out;simp only [mPar,E];omega
     ·have L:Hid (min (q+(runT s i last).count) 501=(q+(runT s i last).count)):=by unfold Hid;omega
      by_cases ao:q+(runT s i last).count=501
      ·have I:Hid (addRun j (q+(runT s i last).count) (runT s i last).count (runT s i last).thread=j):=by
        unfold Hid addRun;rw [if_neg (by omega)]
       have J:(j.length:Int)<=(q+(runT s i last).count):=by omega
       have aU:¬(q+(runT s i last).count<501):=by omega
       have HM2:=ij ao;clear ao;have aL:b<K.heap.size:=W.out.lt;have Y:i+(runT s i last).len<=s.size:=an;go_wp2_with fail
       rw [<-ak.out];refine(rJ s b _ 32 _ W.out Y hs).mono ?_;rintro e u ⟨D,rfl,r⟩;have H:Hid (u.ownsRow (b+1) 3 1 (.slice x1 x2 x3) j.length (ints j)):=iC ac.out D (fun k e=>by simp at e;omega);have G:Hid (n.grownBy u (some b)):=il ai.out D;unfold skAt at r;cases hit:hitB s (i+(runT s i last).len) 32 with
       | true=>
        rw [hit,if_pos rfl]at r;have A:Hid (ParIn n b s f j (runT s i last).thread (q+(runT s i last).count) (i+(runT s i last).len+1) u):=by
         have R:i+(runT s i last).len<s.size:=by
          unfold hitB at hit;have:=jt (show (byt s)[i+(runT s i last).len]?=some 32 by simpa using hit);rwa [iL]at this
         exact⟨G.out,r,by omega,aq,ap,by omega,by omega,J,by omega,by have e:=B.out.eq;rw [nt hok hit,L.out,I.out]at e;exact e⟩
        clear D r;go_wp2_with fail
        go_roundw
        case rel=>exact⟨j,f,(runT s i last).thread,(q+(runT s i last).count),true,i+(runT s i last).len+1,rfl,rfl,rfl,ij (Or.inl ⟨rfl,A.out⟩),H⟩
        case measure=>
         have X:=jI A.out.sc;have E:=Q.out;have e3:=A.out.le;simp only [mPar,X,E];omega
       | false=>
        rw [hit,if_neg (by simp)]at r;have A:Hid (ParEnd n b s j (q+(runT s i last).count) (i+(runT s i last).len) u):=
         ⟨G.out,r,by omega,by omega,by omega,J,by have e:=B.out.eq;rw [oN hok hit,L.out,I.out]at e;exact e⟩
        clear D r;go_wp2_with fail
        go_roundw
        case rel=>exact⟨j,f,(runT s i last).thread,(q+(runT s i last).count),false,i+(runT s i last).len,rfl,rfl,rfl,ij (Or.inr ⟨rfl,A.out⟩),H⟩
        case measure=>
         have E:=Q.out;simp only [mPar,E];omega
      ·have aU:q+(runT s i last).count<501:=by omega
       obtain⟨c,hc⟩:=Int.eq_ofNat_of_zero_le aR;obtain⟨F,Z⟩:∃ F,F=j++List.replicate c (runT s i last).thread:=⟨_,rfl⟩;have I:Hid (addRun j (q+(runT s i last).count) (runT s i last).count (runT s i last).thread=F):=by
        unfold Hid addRun;rw [if_pos (by omega),Z,hc];rfl
       have J:(F.length:Int)<=(q+(runT s i last).count):=by rw [Z];simp;omega
       have ah:=rP n K (some b) (.slice x1 x2 x3) j (runT s i last).thread c (by rw [aE];exact ac.out) ai.out (by omega) (by omega);rw [aE,<-Z,<-hc]at ah;have ar:=ij ah;have HC:=ij hc;have HS3':=ij Z;clear ah hc Z;clear ao;go_wp2_with fail
       rw [<-ak.out];refine ar.out.mono ?_;rintro e w5 ⟨sv5,rfl,aJ,aF,aH,y1,y2,y3,rfl⟩;have az:Hid (ScAt w5 b s (i+(runT s i last).len)):=by
        have h3:=W.out;have aT:=h3.lt;have aX:=iA ac.out;unfold Hid ScAt at*;rw [aH.block b aT (fun e=>by have:=aX b e.symm;omega)];exact h3
       have aQ:=ij aJ;have aO:=ij aF;clear aJ aF aH ar;have aL:b<w5.heap.size:=az.out.lt;have Y:i+(runT s i last).len<=s.size:=an;go_wp2_with fail
       refine(rJ s b _ 32 _ az.out Y hs).mono ?_;rintro e u ⟨D,rfl,r⟩;have H:Hid (u.ownsRow (b+1) 3 1 (.slice y1 y2 y3) F.length (ints F)):=iC aQ.out D (fun k e=>by simp at e;omega);have G:Hid (n.grownBy u (some b)):=il aO.out D;unfold skAt at r;cases hit:hitB s (i+(runT s i last).len) 32 with
       | true=>
        rw [hit,if_pos rfl]at r;have A:Hid (ParIn n b s f F (runT s i last).thread (q+(runT s i last).count) (i+(runT s i last).len+1) u):=by
         have R:i+(runT s i last).len<s.size:=by
          unfold hitB at hit;have:=jt (show (byt s)[i+(runT s i last).len]?=some 32 by simpa using hit);rwa [iL]at this
         exact⟨G.out,r,by omega,aq,ap,by omega,by omega,J,by omega,by have e:=B.out.eq;rw [nt hok hit,L.out,I.out]at e;exact e⟩
        clear D r;go_wp2_with fail
        go_roundw
        case rel=>exact⟨F,f,(runT s i last).thread,(q+(runT s i last).count),true,i+(runT s i last).len+1,rfl,rfl,rfl,ij (Or.inl ⟨rfl,A.out⟩),H⟩
        case measure=>
         have X:=jI A.out.sc;have E:=Q.out;have e3:=A.out.le;simp only [mPar,X,E];omega
       | false=>
        rw [hit,if_neg (by simp)]at r;have A:Hid (ParEnd n b s F (q+(runT s i last).count) (i+(runT s i last).len) u):=
         ⟨G.out,r,by omega,by omega,by omega,J,by have e:=B.out.eq;rw [oN hok hit,L.out,I.out]at e;exact e⟩
        clear D r;go_wp2_with fail
        go_roundw
        case rel=>exact⟨F,f,(runT s i last).thread,(q+(runT s i last).count),false,i+(runT s i last).len,rfl,rfl,rfl,ij (Or.inr ⟨rfl,A.out⟩),H⟩
        case measure=>
         have E:=Q.out;simp only [mPar,E];omega
   ·have B:=ij C;have c1:=C.sc.c1;have am:=C.le;clear C HI;by_cases R:i<s.size
    ·have U:Hid (parseP (byt s)=⟨[],i,false⟩):=by unfold Hid;rw [<-B.out.eq,endP,if_pos R]
     have q1:(i:Int)<s.size:=by omega
     go_wp2_with fail
     go_quiet (fail)
     go_wp2_with fail
     refine bodyPost_ret (v:= .tuple #[.slice none 0 0,.int .i64 (i:Int),.bool false]) (by simp [results,Tryz.results72,go_sem]) rfl ?_;exact T.out _ (iO _ B.out.grown) none 0 0 ⟨[],i,false⟩ U.out.symm (V.out _)
    ·have q1:(s.size:Int)<=i:=by omega
     by_cases h5:q=501
     ·have U:Hid (parseP (byt s)=⟨[],0,false⟩):=by unfold Hid;rw [<-B.out.eq,endP,if_neg R,if_pos h5]
      have h6:(q==501)=true:=by simpa using h5
      clear h5;go_wp2_with fail
      refine bodyPost_ret (v:= .tuple #[.slice none 0 0,.int .i64 0,.bool false]) (by simp [results,Tryz.results72,go_sem]) rfl ?_;exact T.out _ B.out.grown none 0 0 ⟨[],0,false⟩ U.out.symm (V.out _)
     ·have U:Hid (parseP (byt s)=⟨j,0,true⟩):=by unfold Hid;rw [<-B.out.eq,endP,if_neg R,if_neg h5]
      go_wp2_with fail
      refine bodyPost_ret (v:= .tuple #[.slice x1 x2 x3,.int .i64 0,.bool true]) (by simp [results,Tryz.results72,go_sem]) rfl ?_;exact T.out _ B.out.grown x1 x2 x3 ⟨j,0,true⟩ U.out.symm HO.out
def okN(t:Int):Bool:=decide (0<=t) && decide (t<=63)
theorem vi(l:List Int)(v:Value)(w:World)(y:IntsAt w.heap.size w v l):
  Calls Tryz.prog 76 #[v] w fun e w'=>e= .returned (.bool (validS l))/\w.grownBy w' none:=by
 obtain⟨ao,cap,rfl,hcap,hc⟩:=y;by_cases m:l.length<=500
 ·have s:(l.length:Int)<=500:=by omega
  have b:Hid (validS l=l.all okN):=by unfold Hid validS;rw [decide_eq_true m];rfl
  have r:=ij hc;clear hc;go_enter Tryz.func76,Tryz.ntmps76
  go_wp2
  go_loopw [10] (fun i w'=>∃ k:Nat,k<=l.length/\i= .int .i64 k/\w'=w/\Hid ((l.take k).all okN=true)) (fun i _=>l.length - (intOf i).toNat)
  case atStart=>exact⟨0,Nat.zero_le _,rfl,rfl,rfl⟩
  case round=>
   obtain⟨k,hk,rfl,rfl,c⟩:=hrel;by_cases p:k<l.length
   ·obtain⟨g,o,rfl,hg,c0⟩:=r.out k p;have d:=ij (ju l okN k p);have hk0:(0:Int)<=(k:Int):=by omega
    have hk1:(k:Int)<l.length:=by omega
    have f:Hid (okN l[k]=false->validS l=false):=by
     intro h;rw [b.out];have:(l.take (k+1)).all okN=false:=by rw [d.out,h];simp
     rw [<-List.take_append_drop (k+1) l,List.all_append,this];rfl
    generalize l[k]=x at*;by_cases j:0<=x
    ·by_cases n:x<=63
     ·have q:Hid ((l.take (k+1)).all okN=true):=by unfold Hid;rw [d.out,c.out];simp [okN,j,n]
      have t:¬x<0:=by omega
      have u:¬63<x:=by omega
      go_wp2
      go_roundw
      case rel=>exact⟨k+1,by omega,by go_num,trivial,q⟩
      case measure=>simp [intOf];omega
     ·have a:=ij (f.out (by simp [okN,n]));have u:63<x:=by omega
      go_wp2
      go_ret;exact⟨by rw [a.out];rfl,ir _ _⟩
    ·have a:=ij (f.out (by simp [okN,j]));have t:x<0:=by omega
     go_wp2
     go_ret;exact⟨by rw [a.out];rfl,ir _ _⟩
   ·have a:Hid (validS l=true):=by
     unfold Hid;rw [b.out];have:=c.out;rw [List.take_of_length_le (by omega)]at this;exact this
    go_wp2
    go_ret;exact⟨by rw [a.out];rfl,ir _ _⟩
 ·have s:500<(l.length:Int):=by omega
  have b:Hid (validS l=false):=by unfold Hid validS;rw [decide_eq_false m];rfl
  clear hc;go_enter Tryz.func76,Tryz.ntmps76
  go_wp2
  go_ret;exact⟨by rw [b.out];rfl,ir _ _⟩
theorem vS(q:List (Int × Int)):(flatS q).length=q.length*2:=by
 induction q with
 | nil=>rfl
 | cons x q ih=>simp [flatS]at ih ⊢;omega
theorem vT(q:List (Int × Int))(e:q≠[])(x:Int × Int)(a:q.getLast?=some x):(flatS q).set ((q.length - 1)*2+1) (.int .i64 (x.2+1))=flatS (bump q):=by
 induction q with
 | nil=>exact absurd rfl e
 | cons y q ih=>
  cases q with
  | nil=>
   simp at a;subst a
   simp [flatS,bump]
  | cons z q=>
   rw [List.getLast?_cons_cons]at a;have:=ih (by simp) a;have b:flatS (y::z::q)= .int .i64 y.1:: .int .i64 y.2::flatS (z::q):=rfl;have c:flatS (bump (y::z::q))= .int .i64 y.1:: .int .i64 y.2::flatS (bump (z::q)):=rfl;rw [b,c,<-this];have d:((y::z::q).length - 1)*2+1=(((z::q).length - 1)*2+1)+1+1:=by simp;omega
   rw [d,List.set_cons_succ,List.set_cons_succ]
theorem xA(q:List (Int × Int)):(bump q).length=q.length:=by
 induction q with
 | nil=>rfl
 | cons y q ih=>
  cases q with
  | nil=>rfl
  | cons z q=>simp [bump]at ih ⊢;exact ih
theorem xX(q:List (Int × Int))(x:Int × Int)(a:q.getLast?=some x):(flatS q)[(q.length - 1)*2+1]?=some (.int .i64 x.2):=by
 induction q with
 | nil=>simp at a
 | cons y q ih=>
  cases q with
  | nil=>simp at a;subst a;simp [flatS]
  | cons z q=>
   rw [List.getLast?_cons_cons]at a;have:=ih a;have b:flatS (y::z::q)= .int .i64 y.1:: .int .i64 y.2::flatS (z::q):=rfl;have c:((y::z::q).length - 1)*2+1=(((z::q).length - 1)*2+1)+1+1:=by simp;omega
   rw [b,c];exact this
theorem yn:((Tryz.prog.info? 187).map fun i=>(i.zero,i.size,i.bytes))=some (some (.agg #[.int .i64 0,.int .i64 0]),2,16):=by kernel_rfl
theorem Cf(l:List Int)(v:Value)(w:World)(hI:IntsAt w.heap.size w v l)(h5:l.length<=500):
  Calls Tryz.prog 107 #[v] w fun e w'=>∃ x y z,e= .returned (.slice x y z)/\w'.ownsRow w.heap.size 187 2 (.slice x y z) (grp l).length (flatS (grp l))/\w.grownBy w' none:=by
 obtain⟨i0,ae,ai,aj,ak⟩:=info_parts yn;obtain⟨ao,cap,rfl,hcap,hc⟩:=hI;have Z:=ij hc;clear hc;go_enter Tryz.func107,Tryz.ntmps107
 go_wp2_with fail
 go_loopw [3,8] (fun lv i w'=>∃ k:Nat,k<=l.length/\i= .int .i64 k/\Hid (w'.ownsRow w.heap.size 187 2 lv (grp (l.take k)).length (flatS (grp (l.take k)))/\w.grownBy w' none)) (fun _ i _=>l.length - (intOf i).toNat)
 case atStart=>exact⟨0,Nat.zero_le _,rfl,⟨rfl,Or.inl ⟨rfl,rfl⟩⟩,ir _ _⟩
 case round=>
  obtain⟨k,hk,rfl,d⟩:=hrel;obtain⟨c,ay⟩:∃ c,c=wr:=⟨_,rfl⟩;subst ay;obtain⟨x1,x2,x3,rfl⟩:=iw d.out.1;by_cases ag:k<l.length
  ·obtain⟨g,o,rfl,hg,c0⟩:=Z.out k ag;have d0:=ip d.out.2 _ _ c0;have hk0:(0:Int)<=(k:Int):=by omega
   have hk1:(k:Int)<l.length:=by omega
   have O:Hid (l.take (k+1)=l.take k++[l[k]]):=List.take_succ_eq_append_getElem ag;have K:=lN (l.take k);have av:(grp (l.take k)).length<=500:=by simp at K;omega
   have h:=x9 (l.take k);have J:=mI (l.take k);have ab:∀ (w6:World) (g6 a:Nat) (q:List (Int × Int)) (x:Int × Int),q≠[]->q.getLast?=some x->w6.ownsRow w.heap.size 187 2 (.slice (some ⟨g6,0,none⟩) q.length a) q.length (flatS q)->w.grownBy w6 none->
     (w6.setCell ⟨g6,(q.length - 1)*2+1,none⟩ (.int .i64 (x.2+1))).ownsRow w.heap.size 187 2 (.slice (some ⟨g6,0,none⟩) q.length a) (bump q).length (flatS (bump q))/\w.grownBy (w6.setCell ⟨g6,(q.length - 1)*2+1,none⟩ (.int .i64 (x.2+1))) none/\
     w6.cell? ⟨g6,(q.length - 1)*2+1,none⟩=some (.int .i64 x.2)/\w6.frozen? ⟨g6,(q.length - 1)*2+1,none⟩=false:=by
    intro w6 g6 a q x hq L p U;have hql:0<q.length:=List.length_pos_iff.2 hq;refine⟨?_,?_,?_,?_⟩
    ·rw [xA,<-vT q hq x L];exact iU p _ _
    ·exact iD U (iA p g6 rfl)
    ·rw [p.cellAt _ (by omega)];exact xX q x L
    ·rcases p.2 with ⟨e,_⟩ | ⟨g',cap',cur,hv,hb,hh,_⟩
     ·cases e
     ·simp only [Value.slice.injEq,Option.some.injEq,Addr.mk.injEq,true_and,and_true]at hv;obtain⟨rfl,rfl⟩:=hv;simp [World.frozen?,hh]
   have r:=ij ab;clear ab;have f:=ij d.out.1;have A:=ij d.out.2;have H2s:=d.out.2.size;have X:=iA f.out;have S:(grp (l.take k)).length+1<=maxLen:=by unfold maxLen;omega
   have am:¬(l.take k).getLast?=some l[k]->∀ (w6:World) (g6 a:Nat),w6.ownsRow w.heap.size 187 2 (.slice (some ⟨g6,0,none⟩) ((grp (l.take k)).length+1) a) ((grp (l.take k)).length+1) (flatS (grp (l.take k))++[.int .i64 l[k],.int .i64 0])->w.grownBy w6 none->
     (w6.setCell ⟨g6,(grp (l.take k)).length*2+1,none⟩ (.int .i64 1)).ownsRow w.heap.size 187 2 (.slice (some ⟨g6,0,none⟩) ((grp (l.take k)).length+1) a) (grp (l.take (k+1))).length (flatS (grp (l.take (k+1))))/\w.grownBy (w6.setCell ⟨g6,(grp (l.take k)).length*2+1,none⟩ (.int .i64 1)) none/\
     w6.cell? ⟨g6,(grp (l.take k)).length*2+1,none⟩=some (.int .i64 0)/\w6.frozen? ⟨g6,(grp (l.take k)).length*2+1,none⟩=false:=by
    intro hn w6 g6 a p U;have:=r.out w6 g6 a (grp (l.take k)++[(l[k],0)]) (l[k],0) (by simp) (by simp) (by simpa [flatS]using p) U;have e2:bump (grp (l.take k)++[(l[k],0)])=grp (l.take (k+1)):=by
     rw [O.out,sm,if_neg hn];have:∀ q:List (Int × Int),bump (q++[(l[k],0)])=q++[(l[k],1)]:=by
      intro q;induction q with
      | nil=>rfl
      | cons y q ih=>
       cases q with
       | nil=>rfl
       | cons z q=>rw [List.cons_append,List.cons_append,bump,<-List.cons_append,ih];rfl
     exact this _
    rw [e2]at this;simpa using this
   have B:=ij am;clear am;by_cases V:k=0
   ·have C:=B.out (by subst V;simp);have N:=ij C;clear C B r h J K;have q0:((k:Int)==0)=true:=by simp;omega
    clear V c0;generalize l[k]=x at*;go_wp2_with (at_builtin;refine wpList_append_lies _ rfl _ _ _ rfl w.heap.size 187 i0 _ 2 16 Tryz.underlying195 ae ai aj ak rfl (by omega) (.slice x1 x2 x3) (grp (l.take k)).length (flatS (grp (l.take k))) rfl (iG f.out) ⟨c.heap.size,0,none⟩ 1 1 [.int .i64 x,.int .i64 0] rfl rfl (World.news_of_block (cs:= #[.int .i64 x,.int .i64 0]) (t:=187) (fr:=(0,0)) (heap_alloc_new c _)) (by simp [Value.oneCell']) (by omega) S (by omega) (by simp;omega) (c.heap.size+1) (by simp) ?_;intro g6 a w6 G D T aw;obtain⟨f1,b,P,Q⟩:=N.out w6 g6 a G (iZ (iq A.out) D (fun q e=>X q e));have s:=ij f1;have u:=ij b;clear f1 b G D T)
    go_roundw
    case rel=>exact⟨k+1,by omega,by go_num,s.out,u.out⟩
    case measure=>simp [intOf];omega
   ·have q0:((k:Int)==0)=false:=by simp;omega
    have af:k - 1<l.length:=by omega
    obtain⟨g',o',e',_,c1⟩:=Z.out (k - 1) af;simp only [Option.some.injEq,Addr.mk.injEq,and_true]at e';obtain⟨rfl,rfl⟩:=e';have d1:=ip A.out _ _ c1;have E:(l.take k).getLast?=some l[k - 1]:=by
     rw [List.getLast?_eq_getElem?,List.length_take,Nat.min_eq_left (by omega),List.getElem?_take,if_pos (by omega),List.getElem?_eq_getElem af]
    have hkk:(k:Int) - 1=((k - 1:Nat):Int):=by omega
    have q1:(0:Int)<=(k:Int) - 1:=by omega
    have q2:(k:Int) - 1<l.length:=by omega
    have q3:((k:Int) - 1).toNat=k - 1:=by omega
    clear c0 c1 V;by_cases F:l[k]=l[k - 1]
    ·have L:∃ x,(grp (l.take k)).getLast?=some x:=by
      rw [E]at h;cases hg2:(grp (l.take k)).getLast? with
      | none=>rw [hg2]at h;cases h
      | some x=>exact⟨x,rfl⟩
     obtain⟨y,H⟩:=L;have Y:=J y (List.mem_of_getLast? H);have W:grp (l.take k)≠[]:=fun e=>by rw [e]at H;cases H
     have hE:Hid (bump (grp (l.take k))=grp (l.take (k+1))):=by
      unfold Hid;rw [O.out,sm,if_pos (by rw [E,F])]
     obtain⟨m,j⟩:∃ m,(grp (l.take k)).length=m+1:=⟨(grp (l.take k)).length - 1,by have:=List.length_pos_iff.2 W;omega⟩;obtain⟨g6,a,I,_,_⟩:=f.out.form (by omega);have R:=f.out;rw [I]at R;obtain⟨f1,b,P,Q⟩:=r.out c g6 a (grp (l.take k)) y W H R A.out;rw [hE.out,j,Nat.add_sub_cancel]at f1;rw [j,Nat.add_sub_cancel]at b P Q;rw [j]at I;simp only [Value.slice.injEq]at I;obtain⟨rfl,rfl,rfl⟩:=I;have s:=ij f1;have u:=ij b;have au:(l[k]==l[k - 1])=true:=by simpa using F
     have hyc2:y.2<=500:=by simp at Y;omega
     have hyc1:=Y.2.1;have hm500:m+1<=500:=by omega
     have HM:=ij j;rw [j]at S;clear f1 b R r B h J K av hE W H Y j d f A E X O F;generalize l[k]=x at*;generalize l[k - 1]=x' at*;generalize y.2=n at*;go_wp2_with fail
     go_roundw
     case rel=>exact⟨k+1,by omega,by go_num,s.out,u.out⟩
     case measure=>simp [intOf];omega
    ·have C:=B.out (by rw [E];simpa using fun e=>F e.symm);have N:=ij C;have au:(l[k]==l[k - 1])=false:=by simpa using F
     clear C B r h J K E;generalize l[k - 1]=x' at*;generalize l[k]=x at*;go_wp2_with (at_builtin;refine wpList_append_lies _ rfl _ _ _ rfl w.heap.size 187 i0 _ 2 16 Tryz.underlying195 ae ai aj ak rfl (by omega) (.slice x1 x2 x3) (grp (l.take k)).length (flatS (grp (l.take k))) rfl (iG f.out) ⟨c.heap.size,0,none⟩ 1 1 [.int .i64 x,.int .i64 0] rfl rfl (World.news_of_block (cs:= #[.int .i64 x,.int .i64 0]) (t:=187) (fr:=(0,0)) (heap_alloc_new c _)) (by simp [Value.oneCell']) (by omega) S (by omega) (by simp;omega) (c.heap.size+1) (by simp) ?_;intro g6 a w6 G D T aw;obtain⟨f1,b,P,Q⟩:=N.out w6 g6 a G (iZ (iq A.out) D (fun q e=>X q e));have s:=ij f1;have u:=ij b;clear f1 b G D T)
     go_roundw
     case rel=>exact⟨k+1,by omega,by go_num,s.out,u.out⟩
     case measure=>simp [intOf];omega
  ·have ek:l.take k=l:=List.take_of_length_le (by omega);have q2:(l.length:Int)<=(k:Int):=by omega
   have M:=d.out;rw [ek]at M;have aa:=ij M;clear M d;go_wp2
   go_ret;exact⟨_,_,_,rfl,aa.out.1,aa.out.2⟩
def Tab(w:World):Prop:=Lib.TabIs Tryz.prog w "internal/strconv.uint64pow10" .u64 Lib.pow10Tab
theorem Tab.grown{w w':World}(h:Tab w)(a:w.grownBy w' none):Tab w':=by
 unfold Tab at*;exact(Lib.tabBelow_of_tabIs h) w' ⟨a.os,a.tape,a.output,a.size,fun k hk=>a.block k hk (by simp)⟩
theorem yu(n:Int)(a: -9223372036854775808<=n)(b:n<=9223372036854775807)(w:World)(c:Tab w):Calls Tryz.prog 144 #[.int .i64 n] w fun e w'=>e= .returned (.string ⟨(Lib.itoa n).toArray⟩)/\w.grownBy w' none:=by
 refine(Tryz.strconv_Itoa n a b w c).mono ?_;rintro e w' ⟨rfl,k,d,rfl⟩;exact⟨rfl,js (Lib.below_grow _ w (Nat.le_refl _) k d)⟩
theorem uN{u:Nat}(h:u<1000):(Lib.decDigits u).length<=3:=by
 have b:∀ u,u<10->(Lib.decDigits u).length=1:=fun u h=>by rw [Lib.decDigits,dif_pos h];rfl
 have c:∀ u,u<100->(Lib.decDigits u).length<=2:=fun u h=>by
  by_cases a:u<10
  ·rw [b u a];omega
  ·rw [Lib.decDigits,dif_neg a,List.length_append,b (u / 10) (by omega)];simp
 by_cases a:u<10
 ·rw [b u a];omega
 ·have:=c (u / 10) (by omega);rw [Lib.decDigits,dif_neg a,List.length_append];simp;omega
theorem lA{n:Int}(h0:0<=n)(h:n<1000):(Lib.itoa n).length<=3:=by
 unfold Lib.itoa;rw [if_neg (by omega)];exact uN (by omega)
theorem B2(t n:Int)(w:World)(s:Tab w)(A:0<=t)(ht1:t<=63)(hn0:1<=n)(hn1:n<=500):
  Calls Tryz.prog 108 #[.agg #[.int .i64 t,.int .i64 n]] w fun e w'=>e= .returned (.string ⟨(wordS t n).toArray⟩)/\w.grownBy w' none:=by
 have l:=ij s;clear s;by_cases j:n=1
 ·subst j;go_enter Tryz.func108,Tryz.ntmps108
  go_wp2_with (go_at_call 144;refine(yu _ (by omega) (by omega) _ (l.out.grown (iq (ir _ _)))).mono ?_;rintro e w' ⟨rfl,b⟩)
  go_ret;exact⟨by simp [wordS],il (iq (ir _ _)) b⟩
 ·have hn:(n==1)=false:=by simpa using j
  go_enter Tryz.func108,Tryz.ntmps108
  have z:∀ o,Tab (w.alloc o):=fun o=>l.out.grown (iq (ir _ _))
  have call:∀ (m:Int) (u: -9223372036854775808<=m) (v:m<=9223372036854775807) (o:Obj) (d:Nat) (a:Array Obj),Calls Tryz.prog 144 #[.int .i64 m] (Sort.grow (redrawn (w.alloc o) d) a) fun e w''=>e= .returned (.string ⟨(Lib.itoa m).toArray⟩)/\∃ p:Regrown,w''=Sort.grow (redrawn (w.alloc o) p.d) p.os:=by
   intro m u v o d a;refine Calls.regrown_of ((yu m u v _ ((z o).grown (js (below_regrown _ d a)))).mono ?_);rintro e w' ⟨rfl,b⟩;exact⟨rfl,b.os,b.tape,b.output,b.size,fun k hk=>b.block k hk (by simp)⟩
  obtain⟨c,i⟩:∃ c:ByteArray,c=⟨(Lib.itoa t).toArray⟩:=⟨_,rfl⟩;obtain⟨f,h⟩:∃ f:ByteArray,f=⟨(Lib.itoa n).toArray⟩:=⟨_,rfl⟩;have l1:c.size<=3:=by rw [i];simpa [ByteArray.size]using lA A (by omega)
  have l2:f.size<=3:=by rw [h];simpa [ByteArray.size]using lA (n:=n) (by omega) (by omega)
  have n1:¬9223372036854775807<c.size+1:=by omega
  have n2:¬9223372036854775807<c.size+1+f.size:=by omega
  have r:=fun o d a=>call t (by omega) (by omega) o d a
  have q:=fun o d a=>call n (by omega) (by omega) o d a
  rw [<-i]at r;rw [<-h]at q;have x:Hid ((⟨(wordS t n).toArray⟩:ByteArray)=c++⟨#[42]⟩++f):=by
   unfold Hid wordS;rw [if_neg j,i,h];apply ByteArray.ext;simp
  clear call i h;go_wp2_with fail
  have c0:∀ d a,(Sort.grow (redrawn (w.alloc (.cells #[.int .i64 t,.int .i64 n] 187)) d) a).cell? ⟨w.heap.size,0,none⟩=some (.int .i64 t):=fun d a=>cell_regrown (by have:=heap_alloc_new w (.cells #[.int .i64 t,.int .i64 n] 187);simp only [World.cell?,this];rfl) d a
  have c1:∀ d a,(Sort.grow (redrawn (w.alloc (.cells #[.int .i64 t,.int .i64 n] 187)) d) a).cell? ⟨w.heap.size,1,none⟩=some (.int .i64 n):=fun d a=>cell_regrown (by have:=heap_alloc_new w (.cells #[.int .i64 t,.int .i64 n] 187);simp only [World.cell?,this];rfl) d a
  refine wp_region_quiet_below (by kernel_rfl) (by kernel_rfl) ?_;repeat (quiet_step (first | exact r _ _ _ | exact q _ _ _))
  refine wpQuiet_nil ?_;intro _ B;obtain⟨⟨y,D⟩,C⟩:=B;subst C;go_wp2
  go_ret;exact⟨by rw [x.out];rfl,il (iq (ir _ _)) (js (below_regrown _ y D))⟩
def strs(q:List (List UInt8)):List Value:=q.map fun x=> .string ⟨x.toArray⟩
def wordsS(q:List (Int × Int)):List (List UInt8):=q.map fun x=>wordS x.1 x.2
theorem sx:((Tryz.prog.info? 9).map fun i=>(i.zero,i.size,i.bytes))=some (some (.string ⟨#[]⟩),1,16):=by kernel_rfl
theorem uR(q:List (Int × Int))(k:Nat)(b:k<q.length):(flatS q)[k*2]?=some (.int .i64 q[k].1)/\(flatS q)[k*2+1]?=some (.int .i64 q[k].2):=by
 induction q generalizing k with
 | nil=>simp at b
 | cons y q ih=>
  have a:flatS (y::q)= .int .i64 y.1:: .int .i64 y.2::flatS q:=rfl;cases k with
  | zero=>rw [a];simp
  | succ k=>
   have:=ih k (by simpa using b);have c:(k+1)*2=k*2+1+1:=by omega
   rw [a,c];simpa using this
theorem zD{t n:Int}(c:0<=t)(h1:t<=63)(h2:1<=n)(h3:n<=500):(wordS t n).length<=7:=by
 have a:=lA c (by omega);have b:=lA (n:=n) (by omega) (by omega);unfold wordS;split
 ·omega
 ·simp;omega
theorem yw(q:List (List UInt8))(h:∀ x∈q,x.length<=7):(Lib.join q [32]).length<=8*q.length:=by
 cases q with
 | nil=>simp [Lib.join_nil]
 | cons x r=>
  rw [Lib.join_cons];have d:∀ r:List (List UInt8),(∀ x∈r,x.length<=7)->(Lib.joinTail [32] r).length<=8*r.length:=by
   intro r;induction r with
   | nil=>intro _;simp [Lib.joinTail]
   | cons y r ih=>
    intro a;have:=ih (fun x b=>a x (by simp [b]));have c:=a y (by simp);simp [Lib.joinTail]at this ⊢;omega
  have:=d r (fun y c=>h y (by simp [c]));have b:=h x (by simp);simp;omega
theorem nj{l:List Int}(h:validS l=true):∀ x∈grp l,0<=x.1/\x.1<=63/\1<=x.2/\x.2<=500:=by
 intro x b;simp only [validS,Bool.and_eq_true,decide_eq_true_eq,List.all_eq_true]at h;have:=mI l x b;have a:=h.2 x.1 this.1;exact⟨a.1,a.2,this.2.1,by omega⟩
theorem yX(l:List Int)(v:Value)(w:World)(O:Tab w)(C:IntsAt w.heap.size w v l)(b:validS l=true):
  Calls Tryz.prog 77 #[v] w fun e w'=>e= .returned (.string ⟨(printS l).toArray⟩)/\w.grownBy w' none:=by
 obtain⟨i0,al,av,aw,ax⟩:=info_parts sx;have h5:l.length<=500:=by simp only [validS,Bool.and_eq_true,decide_eq_true_eq]at b;exact b.1
 have Z:=ij O;have J:=ij (Cf l v w C h5);obtain⟨ao,cap,rfl⟩:=C.form;have L:=ij (nj b);have Q:=lN l;clear O C b;go_enter Tryz.func77,Tryz.ntmps77
 go_wp2_with fail
 refine J.out.mono ?_;rintro e c ⟨x,y,z,rfl,F,P⟩;have G:=iB F;subst G;have A:=ij F;have H:=ij P;clear F P J;have W:Hid (printS l=Lib.join (wordsS (grp l)) [32]):=rfl;generalize grp l=q at*;have hq:(q.length:Int)<=500:=by omega
 go_wp2_with fail
 go_loopw [3,9] (fun lv i w'=>∃ k:Nat,k<=q.length/\i= .int .i64 k/\Hid (w'.ownsRow c.heap.size 9 1 lv k (strs (wordsS (q.take k)))/\c.grownBy w' none)) (fun _ i _=>q.length - (intOf i).toNat)
 case atStart=>exact⟨0,Nat.zero_le _,rfl,⟨rfl,Or.inl ⟨rfl,rfl⟩⟩,ir _ _⟩
 case round=>
  obtain⟨k,hk,rfl,p⟩:=hrel;obtain⟨a,aq⟩:∃ a,a=wr:=⟨_,rfl⟩;subst aq;obtain⟨x1,x2,x3,rfl⟩:=iw p.out.1;have r:=ij p.out.1;have m:=ij p.out.2;have hsz2:=p.out.2.size;have an:=iA r.out;by_cases E:k<q.length
  ·obtain⟨g,cp,d,_,_⟩:=A.out.form (by omega);simp only [Value.slice.injEq,true_and]at d;obtain⟨rfl,rfl⟩:=d;have B:=uR q k E;have d0:a.cell? ⟨g,k*2,none⟩=some (.int .i64 q[k].1):=ip m.out _ _ (by rw [A.out.cellAt _ (by omega)];exact B.1);have d1:a.cell? ⟨g,k*2+1,none⟩=some (.int .i64 q[k].2):=ip m.out _ _ (by rw [A.out.cellAt _ (by omega)];exact B.2);have b:=L.out q[k] (List.getElem_mem E);have M:Hid (strs (wordsS (q.take (k+1)))=strs (wordsS (q.take k))++[.string ⟨(wordS q[k].1 q[k].2).toArray⟩]):=by
    unfold Hid strs wordsS;rw [List.take_succ_eq_append_getElem E,List.map_append,List.map_append];rfl
   generalize q[k]=tn at*;obtain⟨t,n⟩:=tn;simp only at d0 d1 b M;have hk0:(0:Int)<=(k:Int):=by omega
   have hk1:(k:Int)<q.length:=by omega
   have ai:k+1<=maxLen:=by unfold maxLen;omega
   have K:∀ o,Tab (a.alloc o):=fun o=>Z.out.grown (iq (il H.out m.out))
   clear B;go_wp2_with fail
   refine(B2 t n _ (K _) b.1 b.2.1 b.2.2.1 b.2.2.2).mono ?_;rintro e w6 ⟨rfl,s⟩;have D:a.grownBy w6 none:=il (iq (ir _ _)) s;have U:Hid (w6.ownsRow c.heap.size 9 1 (.slice x1 x2 x3) k (strs (wordsS (q.take k)))):=iC r.out D (fun _ e=>by cases e);have I:Hid (c.grownBy w6 none):=il m.out D;have hsz6:=I.out.size;clear s D K;generalize wordS t n=wd at*;go_wp2_with (at_builtin;refine wpList_append_lies _ rfl _ _ _ rfl c.heap.size 9 i0 _ 1 16 Tryz.underlying24 al av aw ax rfl (by omega) (.slice x1 x2 x3) k (strs (wordsS (q.take k))) rfl (iG U.out) ⟨w6.heap.size,0,none⟩ 1 1 [.string ⟨wd.toArray⟩] rfl rfl (World.news_of_block (cs:= #[.string ⟨wd.toArray⟩]) (t:=9) (fr:=(0,0)) (heap_alloc_new w6 _)) (by simp [Value.oneCell']) (by omega) ai (by omega) (by simp;omega) (w6.heap.size+1) (by simp) ?_;intro g7 aa T S R aj hlt7)
   have Y:Hid (T.ownsRow c.heap.size 9 1 (.slice (some ⟨g7,0,none⟩) (k+1) aa) (k+1) (strs (wordsS (q.take (k+1))))/\c.grownBy T none):=by
    refine⟨?_,iZ (iq I.out) R (fun q e=>an q e)⟩;rw [M.out];exact S
   clear S R aj;go_wp2
   go_roundw
   case rel=>exact⟨k+1,by omega,by go_num,Y⟩
   case measure=>simp [intOf];omega
  ·have ek:k=q.length:=by omega
   have q2:(q.length:Int)<=(k:Int):=by omega
   subst ek;have h:=r.out;rw [List.take_length]at h;have ar:(wordsS q).length=q.length:=by simp [wordsS]
   have V:Hid (w.grownBy a none):=il H.out m.out;have X:Hid (Calls Tryz.prog 109 #[.slice x1 q.length x3,.string ⟨#[32]⟩] a fun e w'=>e= .returned (.string ⟨(Lib.join (wordsS q) [32]).toArray⟩)/\a.grownBy w' none):=by
    by_cases h0:q.length=0
    ·have ap:q=[]:=List.length_eq_zero_iff.1 h0;subst ap;refine(Tryz.strings_Join_none x1 x3 ⟨#[32]⟩ a).mono ?_;rintro e w' ⟨rfl,rfl⟩;exact⟨rfl,ir _ _⟩
    ·obtain⟨g,cp,d,_,Q⟩:=h.form (by omega);have hcp:q.length<=x3:=by
      rcases h.2 with ⟨_,f⟩ | ⟨_,_,_,f,_,_,e2,_⟩
      ·omega
      ·simp only [Value.slice.injEq]at f;omega
     have N:=h;rw [d]at N;simp only [Value.slice.injEq]at d;obtain⟨rfl,rfl,rfl⟩:=d;have:=Tryz.strings_Join g 0 x3 ((wordsS q).map fun x=>(⟨x.toArray⟩:ByteArray)) ⟨#[32]⟩ a (fun j x hj=>?_) Q (by simp;omega) (by simp;omega) ?_
     ·simp only [List.length_map,ar,List.map_map]at this;have f:((fun(x:ByteArray)=>x.data.toList) ∘ fun x:List UInt8=>(⟨x.toArray⟩:ByteArray))=id:=by funext x;rfl
      rw [f,List.map_id]at this;refine this.mono ?_;rintro e w' ⟨rfl,hb⟩;exact⟨rfl,js hb⟩
     ·have am:=(List.getElem?_eq_some_iff.1 hj).1;rw [Nat.zero_add,N.cellAt j (by simp at am;omega)];unfold strs;rw [List.getElem?_map]at hj ⊢;cases hw:(wordsS q)[j]? with
      | none=>rw [hw]at hj;cases hj
      | some u=>rw [hw]at hj;simp at hj;simp [hj]
     ·have:=yw (wordsS q) (fun x hx=>by
       simp only [wordsS,List.mem_map]at hx;obtain⟨y,G,rfl⟩:=hx;have:=L.out y G;exact zD this.1 this.2.1 this.2.2.1 this.2.2.2)
      have f:((fun(x:ByteArray)=>x.data.toList) ∘ fun x:List UInt8=>(⟨x.toArray⟩:ByteArray))=id:=by funext x;rfl
      rw [List.map_map,f,List.map_id];simp only at this ⊢;omega
   have au:=iB h;subst au;clear h r p;go_wp2_with (go_at_call 109;refine X.out.mono ?_;rintro e w6 ⟨rfl,s⟩)
   go_ret;exact⟨by rw [W.out];rfl,il V.out s⟩
theorem AI(l:List Int)(v:Value)(w:World)(d:Tab w)(b:IntsAt w.heap.size w v l):
  Calls Tryz.prog 47 #[v] w fun e w'=>w.grownBy w' none/\((validS l=true/\e= .returned (.tuple #[.string ⟨(printS l).toArray⟩,.int .i64 0]))\/(validS l=false/\e= .returned (.tuple #[.string ⟨#[]⟩,.int .i64 2]))):=by
 have i:=ij d;have c:=ij b;obtain⟨ao,cap,rfl⟩:=b.form;clear d b;go_enter Tryz.func47,Tryz.ntmps47
 go_wp2_with fail
 refine(vi l _ w c.out).mono ?_;rintro e k ⟨rfl,f⟩;have a:=ij f;clear f;cases hv:validS l with
 | false=>
  go_wp2_with fail
  refine bodyPost_ret (v:= .tuple #[.string ⟨#[]⟩,.int .i64 2]) (by simp [results,Tryz.results47,go_sem]) rfl ?_;exact⟨a.out,Or.inr ⟨hv,rfl⟩⟩
 | true=>
  have h:=ij (yX l _ k (i.out.grown a.out) ((c.out.pres (ip a.out)).mono a.out.size) hv);go_wp2_with (go_at_call 77;refine h.out.mono ?_;rintro e w2 ⟨rfl,j⟩)
  refine bodyPost_ret (v:= .tuple #[.string ⟨(printS l).toArray⟩,.int .i64 0]) (by simp [results,Tryz.results47,go_sem]) rfl ?_;exact⟨il a.out j,Or.inl ⟨hv,rfl⟩⟩
theorem wD(l:List Nat)(h:(parseP l).ok=true):(parseP l).at_=0:=by
 rw [mO]at h ⊢;unfold parseR at*;split at h<;>rename_i h1
 ·rw [if_pos h1]
 ·rw [if_neg h1];cases hw:wholeR (partsR l) (-1) []with
  | none=>rw [hw]at h;cases h
  | some x=>
   rw [hw]at h;simp only at h ⊢;split at h
   ·cases h
   ·rename_i h2;rw [if_neg h2]
theorem wE(l:List Nat)(h:(parseP l).ok=false):(parseP l).out=[]:=by
 rw [mO]at h ⊢;unfold parseR at*;split at h<;>rename_i h1
 ·cases h
 ·rw [if_neg h1];cases hw:wholeR (partsR l) (-1) []with
  | none=>rfl
  | some x=>
   rw [hw]at h;simp only at h ⊢;split at h
   ·rename_i h2;rw [if_pos h2]
   ·cases h
def parE(ok:Bool):Int:=if ok=true then 0 else 4
theorem AF(s:ByteArray)(w:World)(h:s.size<=9223372036854775806):
  Calls Tryz.prog 45 #[.string s] w fun e w'=>∃ x y z,e= .returned (.tuple #[.slice x y z,.int .i64 (parseP (byt s)).at_,.int .i64 (parE (parseP (byt s)).ok)])/\w'.ownsRow (w.heap.size+1) 3 1 (.slice x y z) (parseP (byt s)).out.length (ints (parseP (byt s)).out)/\w.grownBy w' none:=by
 go_enter Tryz.func45,Tryz.ntmps45
 go_wp2_with fail
 refine(yW s w h).mono ?_;rintro e w1 ⟨x,y,z,rfl,d,c⟩;have f:=ij d;have b:=ij c;clear d c;cases hok:(parseP (byt s)).ok with
 | true=>
  have a:(parseP (byt s)).at_=0:=by
   have:=(wD (byt s)) hok;exact this
  rw [a];go_wp2_with fail
  refine bodyPost_ret (v:= .tuple #[.slice x y z,.int .i64 0,.int .i64 0]) (by simp [results,Tryz.results45,go_sem]) rfl ?_;exact⟨x,y,z,by rw [a,hok];rfl,f.out,b.out⟩
 | false=>
  have a:=wE (byt s) hok;go_wp2_with fail
  refine bodyPost_ret (v:= .tuple #[.slice none 0 0,.int .i64 (parseP (byt s)).at_,.int .i64 4]) (by simp [results,Tryz.results45,go_sem]) rfl ?_;refine⟨none,0,0,by rw [hok];rfl,?_,b.out⟩;rw [a];exact⟨rfl,Or.inl ⟨rfl,rfl⟩⟩
end
end Go.Proofs.YtklenjmfalljgabGreatDoor
