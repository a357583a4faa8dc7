/- The texts Bas Ctr Apn Scn Scn2 Scn3 Par. -/
import Derived.Test.YtklenjmfalljgabGreatDoorM00
import Derived.Test.YtklenjmfalljgabGreatDoorM05
import Derived.WalkSpells
import Derived.WalkLawsBesides
import Derived.Deep.Light
import Derived.Lib.QuietBelow
import Derived.BigQuiet
import Derived.Deep.QuietTactic
import Derived.Deep.AppendLies
import Derived.Maps.AppendAt
namespace Go.Proofs.YtklenjmfalljgabGreatDoor
set_option maxRecDepth 100000
set_option maxHeartbeats 8000000
section
open Go.RowKit
theorem iT(w:World):Like w w:=⟨rfl,rfl,rfl,rfl⟩
theorem jb{w' w:World}(h:Like w' w)(n:Nat):Like (w'.drewN n) w:=by
 have:=jB w' n;exact⟨this.1.trans h.1,this.2.1.trans h.2.1,this.2.2.1.trans h.2.2.1,this.2.2.2.trans h.2.2.2⟩
theorem iU{w:World}{base:Nat}{e:TypeId}{b g n a:Nat}{xs:List Value}(h:w.ownsRow base e b (.slice (some ⟨g,0,none⟩) n a) n xs)(j:Nat)(u:Value):
  (w.setCell ⟨g,j,none⟩ u).ownsRow base e b (.slice (some ⟨g,0,none⟩) n a) n (xs.set j u):=by
 obtain⟨c,d⟩:=h;refine⟨by simpa using c,?_⟩;rcases d with ⟨e1,_⟩ | ⟨g',cap',cur,hv,hb,hh,h3,h4,h5,h6⟩
 ·cases e1
 ·simp only [Value.slice.injEq,Option.some.injEq,Addr.mk.injEq,true_and,and_true]at hv;obtain⟨rfl,rfl⟩:=hv;exact Or.inr ⟨g,a,cur.setIfInBounds j u,rfl,hb,heap_setCell_same w g j cur e u hh,h3,h4,by simpa using h5,by rw [<-h6,Array.toList_setIfInBounds,List.take_set]⟩
theorem js{w w':World}(h:Below w.heap.size w w'):w.grownBy w' none:=⟨h.os,h.tape,h.output,h.size,fun k hk _=>h.block k hk⟩
end
section
open Go.RowKit
attribute [local go_sem] Go.World.cell?_alloc_some
def ctrC:List Ins:=[⟨2,0,0,0⟩,⟨1,1,0,1⟩,⟨4,0,1,0⟩,⟨3,0,0,0⟩]
def ctrP:List (List Ins):=[ctrC,ctrC]
def ctrV:Array Value:= #[.int .i64 2,.int .i64 0,.int .i64 0,.int .i64 0,.int .i64 1,.int .i64 1,.int .i64 0,.int .i64 1,.int .i64 4,.int .i64 0,.int .i64 1,.int .i64 0,.int .i64 3,.int .i64 0,.int .i64 0,.int .i64 0]
theorem xJ{w:World}{g:Nat}{ty:TypeId}(h:w.heap[g]?=some (.cells ctrV ty (0,0))):CodeAt w (.slice (some ⟨g,0,none⟩) 4 4) ctrC:=by
 refine⟨some ⟨g,0,none⟩,4,rfl,fun k hk=>⟨g,0,rfl,?_⟩⟩;have a:k=0\/k=1\/k=2\/k=3:=by simp [ctrC]at hk;omega
 simp only [World.cell?,h];rcases a with rfl | rfl | rfl | rfl<;>exact⟨rfl,rfl,rfl,rfl⟩
theorem xK{w:World}{g g2:Nat}{ty ty2:TypeId}(h:w.heap[g]?=some (.cells ctrV ty (0,0)))(b:w.heap[g2]?=some (.cells #[.slice (some ⟨g,0,none⟩) 4 4,.slice (some ⟨g,0,none⟩) 4 4] ty2 (0,0))):
  ProgAt w (.agg #[.slice (some ⟨g2,0,none⟩) 2 2]) ctrP:=by
 refine⟨some ⟨g2,0,none⟩,2,rfl,fun t ht=>⟨g2,0,rfl,.slice (some ⟨g,0,none⟩) 4 4,?_,?_⟩⟩
 ·have a:t=0\/t=1:=by simp [ctrP]at ht;omega
  simp only [World.cell?,b];rcases a with rfl | rfl<;>rfl
 ·have a:t=0\/t=1:=by simp [ctrP]at ht;omega
  rcases a with rfl | rfl<;>exact xJ h
theorem pT(w:World):Calls Tryz.prog 5 #[] w fun e w'=>∃ pv,e= .returned pv/\ProgAt w' pv ctrP/\w.grownBy w' none:=by
 go_enter Tryz.func5,Tryz.ntmps5
 go_wp2_with fail
 refine bodyPost_ret (v:= .agg #[.slice (some ⟨w.heap.size+1+1,0,none⟩) 2 2]) ?_ rfl ⟨_,rfl,xK (g:=w.heap.size+1) (ty:=65) (ty2:=66) ?_ ?_,iq (iq (iq (ir _ _)))⟩
 ·simp [results,Tryz.results5,go_sem]
 ·rw [Below.heap_alloc _ _ _ (by simp)];have:=heap_alloc_new (w.alloc (.cells #[.slice (some ⟨w.heap.size+1+1,0,none⟩) 2 2] 37)) (.cells ctrV 65);simp only [World.size_alloc]at this;exact this
 ·have:=heap_alloc_new ((w.alloc (.cells #[.slice (some ⟨w.heap.size+1+1,0,none⟩) 2 2] 37)).alloc (.cells ctrV 65)) (.cells #[.slice (some ⟨w.heap.size+1,0,none⟩) 4 4,.slice (some ⟨w.heap.size+1,0,none⟩) 4 4] 66);simp only [World.size_alloc]at this;exact this
end
section
open Go.RowKit
section
variable {P : Program} {w : World} {ops : Array Oper} {rest : List Oper} {o : Oper} {a : Act} {Q : Exit -> Act -> World -> Prop}
theorem jk(J:o.guard=none)(s x:Operand)(t:TypeId)(y:o.op= .call { callee:= .builtin .append,args:= #[s,x],argTypes:= #[t,t]})
  (base:Nat) (e:TypeId) (i:TypeInfo) (z:Value) (b l:Nat) (B:P.underlying t=some (.slice e)) (r:P.info? e=some i) (T:i.zero=some z) (N:i.size=b) (H:i.bytes=l) (U:z.cells.size=b) (R:0<b)
  (v:Value) (n:Nat) (xs:List Value) (A:a.eval s=v) (f:w.ownsRow base e b v n xs) (k:Option Addr) (m c:Nat) (d:List Value) (C:a.eval x= .slice k m c) (L:d.length=m*b)
  (O:k=none->m=0/\c=0) (M:∀ ad,k=some ad->∀ j u,d[j]?=some u->w.cell? (ad.add j)=some u) (D:∀ u∈d,u.oneCell'=true) (F:n+m<=maxLen) (I:(n+m)*l<=140737488355328) (G:base<=w.heap.size)
  (h:∀ ta tn tc w',w'.ownsRow base e b (.slice ta tn tc) (n+m) (xs++d)->w.grownBy w' v.ownBlock->wpList P ops Q rest (a.put o.dst (.slice ta tn tc)) w'):wpList P ops Q (o::rest) a w:=by
 refine wpList_plain J fun K hK=>?_
 cases k with
 | none=>
  obtain⟨rfl,rfl⟩:=O rfl;have p:=run_append_owned_none (P:=P) w base t o.type e i b B r v n xs f;have S:d=[]:=List.length_eq_zero_iff.1 (by omega);obtain⟨ta,tn,tc,rfl⟩:=iw f;unfold Oper.wp;simp [execOp,y,resolve,invoke,builtin,A,C,p,Result.andThen];exact hK _ _ (h _ _ _ w (by rw [S];simpa using f) (ir _ _))
 | some ad=>
  obtain⟨v',w',p,q,E,h4,h5⟩:=run_append_own_at (P:=P) w base t o.type e i z b l B r T N H U R v n xs f ad m c d L (M ad rfl) D F I G;obtain⟨ta,tn,tc,rfl⟩:=iw q;unfold Oper.wp;simp [execOp,y,resolve,invoke,builtin,A,C,p,Result.andThen];exact hK _ _ (h _ _ _ w' q E)
end
end
section
open Go.RowKit
attribute [local go_sem] Go.World.cell?_alloc_some
def byt(s:ByteArray):List Nat:=s.data.toList.map UInt8.toNat
def ScAt(w:World)(b:Nat)(s:ByteArray)(a:Nat):Prop:=w.heap[b]?=some (.cells #[.string s,.int .i64 a] 184 (0,0))
theorem qv(m:Int)(w:World)(h0: -1000<=m)(h1:m<=1000):Calls Tryz.prog 188 #[.int .i64 m] w fun e w'=>e= .returned (.bool (beginsB m))/\w'=w:=by
 by_cases a:0<m
 ·by_cases b:10*m<63
  ·have HB:Hid (beginsB m=true):=by unfold Hid;simp [beginsB,a,b]
   go_enter Tryz.func188,Tryz.ntmps188
   go_wp2
   go_ret;exact⟨by rw [HB.out];rfl,rfl⟩
  ·have HB:Hid (beginsB m=false):=by unfold Hid;simp [beginsB,a,b]
   go_enter Tryz.func188,Tryz.ntmps188
   go_wp2
   go_ret;exact⟨by rw [HB.out];rfl,rfl⟩
 ·have HB:Hid (beginsB m=false):=by unfold Hid;simp [beginsB,a]
  go_enter Tryz.func188,Tryz.ntmps188
  go_wp2
  go_ret;exact⟨by rw [HB.out];rfl,rfl⟩
theorem qR(n d last:Int)(w:World)(h0: -1<=n)(h1:n<=63)(h2:0<=d)(h3:d<=9):Calls Tryz.prog 177 #[.int .i64 n,.int .i64 d,.int .i64 last] w fun e w'=>e= .returned (.bool (growsB n d last))/\w'=w:=by
 by_cases hn:n<0
 ·have b:max n 0=0:=by omega
  have a:Hid (growsB n d last=(!(n==0) && ((decide (d<=63) && !(d==last)) || beginsB d))):=by
   unfold Hid growsB;rw [b];simp
  go_enter Tryz.func177,Tryz.ntmps177
  go_wp2_with (go_at_call 188;refine(qv _ _ (by omega) (by omega)).mono ?_;rintro e w' ⟨rfl,rfl⟩)
  all_goals (go_ret;refine⟨?_,rfl⟩;rw [a.out];simp [*]<;>omega)
 ·have b:max n 0=n:=by omega
  have a:Hid (growsB n d last=(!(n==0) && ((decide (n*10+d<=63) && !(n*10+d==last)) || beginsB (n*10+d)))):=by
   unfold Hid growsB;rw [b]
  go_enter Tryz.func177,Tryz.ntmps177
  go_wp2_with (go_at_call 188;refine(qv _ _ (by omega) (by omega)).mono ?_;rintro e w' ⟨rfl,rfl⟩)
  all_goals (go_ret;refine⟨?_,rfl⟩;rw [a.out];simp [*]<;>omega)
theorem iL(s:ByteArray):(byt s).length=s.size:=by simp [byt]
theorem jU(s:ByteArray)(a:Nat)(h:a<s.size):(byt s)[a]?=some s[a].toNat:=by
 have:a<s.data.toList.length:=by simpa using h
 rw [byt,List.getElem?_map,List.getElem?_eq_getElem this];rfl
theorem uI(s:ByteArray)(a:Nat)(h:s.size<=a):(byt s)[a]?=none:=by
 rw [List.getElem?_eq_none_iff,iL];exact h
theorem qJ(s:ByteArray)(c:Nat)(h:c∈byt s):c<256:=by
 simp only [byt,List.mem_map]at h;obtain⟨x,_,rfl⟩:=h;exact x.toNat_lt
def digV(c:Option Nat):Value:=match c with
 | some c=>if isD c=true then .tuple #[.int .i64 ((c:Int) - 48),.bool true] else .tuple #[.int .i64 0,.bool false]
 | none=> .tuple #[.int .i64 0,.bool false]
theorem uO(s:ByteArray)(b a:Nat)(w:World)(h:ScAt w b s a)(ha:a<=s.size):
  Calls Tryz.prog 176 #[pt b] w fun e w'=>Like w' w/\e= .returned (digV (byt s)[a]?):=by
 have c0:w.cell? ⟨b,0,none⟩=some (.string s):=by unfold ScAt at h;simp [World.cell?,h]
 have c1:w.cell? ⟨b,1,none⟩=some (.int .i64 a):=by unfold ScAt at h;simp [World.cell?,h]
 clear h;unfold pt;by_cases i:a<s.size
 ·have h1:(a:Int)<s.size:=by omega
  have f:((a:Int)==(s.size:Int))=false:=by simp;omega
  have hb:=s[a].toNat_lt;have d:=ij (jU s a i);by_cases h48:s[a].toNat<48
  ·have g1:((s[a].toNat:Nat):Int)<48:=by omega
   have c:Hid (isD s[a].toNat=false):=by unfold Hid;simp [isD];omega
   go_enter Tryz.func176,Tryz.ntmps176
   go_wp2
   go_quiet (fail)
   go_wp2
   refine bodyPost_ret (v:= .tuple #[.int .i64 0,.bool false]) (by simp [results,Tryz.results176,go_sem]) rfl ?_;refine⟨jb (iT _) _,?_⟩;rw [d.out];simp [digV,c.out]
  ·have g1:¬((s[a].toNat:Nat):Int)<48:=by omega
   by_cases h57:s[a].toNat<=57
   ·have g2:((s[a].toNat:Nat):Int)<=57:=by omega
    have c:Hid (isD s[a].toNat=true):=by unfold Hid;simp [isD];omega
    go_enter Tryz.func176,Tryz.ntmps176
    go_wp2
    go_quiet (fail)
    go_wp2
    go_quiet (fail)
    go_wp2
    refine bodyPost_ret (v:= .tuple #[.int .i64 (((s[a].toNat:Nat):Int) - 48),.bool true]) (by simp [results,Tryz.results176,go_sem]) rfl ?_;refine⟨jb (jb (iT _) _) _,?_⟩;rw [d.out];simp [digV,c.out]
   ·have g2:57<((s[a].toNat:Nat):Int):=by omega
    have c:Hid (isD s[a].toNat=false):=by unfold Hid;simp [isD];omega
    go_enter Tryz.func176,Tryz.ntmps176
    go_wp2
    go_quiet (fail)
    go_wp2
    refine bodyPost_ret (v:= .tuple #[.int .i64 0,.bool false]) (by simp [results,Tryz.results176,go_sem]) rfl ?_;refine⟨jb (iT _) _,?_⟩;rw [d.out];simp [digV,c.out]
 ·have f:((a:Int)==(s.size:Int))=true:=by simp;omega
  have d:=ij (uI s a (by omega));go_enter Tryz.func176,Tryz.ntmps176
  go_wp2
  go_quiet (fail)
  go_wp2
  refine bodyPost_ret (v:= .tuple #[.int .i64 0,.bool false]) (by simp [results,Tryz.results176,go_sem]) rfl ?_;refine⟨jb (iT _) _,?_⟩;rw [d.out];simp [digV]
theorem ScAt.c0{w:World}{b:Nat}{s:ByteArray}{a:Nat}(h:ScAt w b s a):w.cell? ⟨b,0,none⟩=some (.string s):=by unfold ScAt at h;simp [World.cell?,h]
theorem ScAt.c1{w:World}{b:Nat}{s:ByteArray}{a:Nat}(h:ScAt w b s a):w.cell? ⟨b,1,none⟩=some (.int .i64 a):=by unfold ScAt at h;simp [World.cell?,h]
theorem ScAt.f1{w:World}{b:Nat}{s:ByteArray}{a:Nat}(h:ScAt w b s a):w.frozen? ⟨b,1,none⟩=false:=by unfold ScAt at h;simp [World.frozen?,h]
theorem ScAt.set{w:World}{b:Nat}{s:ByteArray}{a:Nat}(h:ScAt w b s a)(x:Nat):ScAt (w.setCell ⟨b,1,none⟩ (.int .i64 x)) b s x:=by
 unfold ScAt at*;rw [heap_setCell_same w b 1 _ _ _ h];rfl
theorem ScAt.like{w w':World}{b:Nat}{s:ByteArray}{a:Nat}(h:ScAt w b s a)(c:Like w' w):ScAt w' b s a:=by
 unfold ScAt at*;rw [c.1];exact h
theorem ScAt.lt{w:World}{b:Nat}{s:ByteArray}{a:Nat}(h:ScAt w b s a):b<w.heap.size:=(Array.getElem?_eq_some_iff.1 h).1
def hitB(s:ByteArray)(a c:Nat):Bool:=(byt s)[a]?==some c
def skAt(s:ByteArray)(a c:Nat):Nat:=if hitB s a c=true then a+1 else a
theorem rJ(s:ByteArray)(b a c:Nat)(w:World)(h:ScAt w b s a)(ha:a<=s.size)(hs:s.size<=9223372036854775806):
  Calls Tryz.prog 100 #[pt b,.int .u8 c] w fun e w'=>w.grownBy w' (some b)/\e= .returned (.bool (hitB s a c))/\ScAt w' b s (skAt s a c):=by
 have c0:=h.c0;have c1:=h.c1;have f1:=h.f1;have d:=ij h;clear h;unfold pt;by_cases f:a<s.size
 ·have h1:(a:Int)<s.size:=by omega
  have i:((a:Int)==(s.size:Int))=false:=by simp;omega
  by_cases hc:s[a].toNat=c
  ·have HB:Hid (hitB s a c=true):=by unfold Hid hitB;rw [jU s a f,hc];simp
   have g1:((s[a].toNat:Nat):Int)=(c:Int):=by omega
   have hsz:(a:Int)+1<=9223372036854775807:=by omega
   go_enter Tryz.func100,Tryz.ntmps100
   go_wp2
   go_quiet (fail)
   go_wp2
   go_ret;refine⟨?_,by rw [HB.out];rfl,?_⟩
   ·exact iO _ iM
   ·rw [skAt,HB.out,if_pos rfl];have:=(d.out.like (jb (iT _) nq)).set (a+1);simpa using this
  ·have HB:Hid (hitB s a c=false):=by unfold Hid hitB;rw [jU s a f];simpa using hc
   have g1:((s[a].toNat:Nat):Int)≠(c:Int):=by omega
   go_enter Tryz.func100,Tryz.ntmps100
   go_wp2
   go_quiet (fail)
   go_wp2
   go_ret;refine⟨iO _ (ir _ _),by rw [HB.out];rfl,?_⟩;rw [skAt,HB.out,if_neg (by simp)];exact d.out.like (jb (iT _) _)
 ·have i:((a:Int)==(s.size:Int))=true:=by simp;omega
  have HB:Hid (hitB s a c=false):=by unfold Hid hitB;rw [uI s a (by omega)];simp
  go_enter Tryz.func100,Tryz.ntmps100
  go_wp2
  go_quiet (fail)
  go_wp2
  go_ret;refine⟨iO _ (ir _ _),by rw [HB.out];rfl,?_⟩;rw [skAt,HB.out,if_neg (by simp)];exact d.out.like (jb (iT _) _)
def atOf(w:World)(b:Nat):Nat:=match w.cell? ⟨b,1,none⟩with
 | some (.int _ x)=>x.toNat
 | _=>0
theorem jI{w:World}{b:Nat}{s:ByteArray}{a:Nat}(h:ScAt w b s a):atOf w b=a:=by simp [atOf,h.c1]
theorem kD{l:List Nat}{a c:Nat}(h:l[a]?=some c):l.drop a=c::l.drop (a+1):=by
 obtain⟨b,rfl⟩:=List.getElem?_eq_some_iff.1 h;exact List.drop_eq_getElem_cons b
theorem jt{l:List Nat}{a c:Nat}(h:l[a]?=some c):a<l.length:=(List.getElem?_eq_some_iff.1 h).1
structure ThrIn(w:World)(b:Nat)(s:ByteArray)(last:Int)(a:Nat)(n':Int)(a':Nat)(w':World):Prop where
 grown:w.grownBy w' (some b)
 sc:ScAt w' b s a'
 le:a'<=s.size
 lo: -1<=n'
 hi:n'<=63
 num:(thr last n' ((byt s).drop a')).1=(thr last (-1) ((byt s).drop a)).1
 len:a'+(thr last n' ((byt s).drop a')).2=a+(thr last (-1) ((byt s).drop a)).2
theorem vW{n d last:Int}(h:growsB n d last=true):max n 0*10+d<=63:=by
 simp only [growsB,beginsB,Bool.and_eq_true,Bool.or_eq_true,decide_eq_true_eq]at h;omega
theorem zr{last n:Int}{c:Nat}{l:List Nat}(a:isD c=true)(b:growsB n ((c:Int) - 48) last=true):thr last n (c::l)=((thr last (nxt n c) l).1,(thr last (nxt n c) l).2+1):=by
 rw [thr,if_pos (by rw [a,b];rfl)]
theorem tt{last n:Int}{c:Nat}{l:List Nat}(h:(isD c && growsB n ((c:Int) - 48) last)=false):thr last n (c::l)=(n,0):=by
 rw [thr,if_neg (by rw [h];simp)]
theorem zt(s:ByteArray)(b a:Nat)(last:Int)(w:World)(h:ScAt w b s a)(K:a<=s.size)(hs:s.size<=9223372036854775806):
  Calls Tryz.prog 142 #[pt b,.int .i64 last] w fun e w'=>w.grownBy w' (some b)/\
   e= .returned (.tuple #[.int .i64 (thr last (-1) ((byt s).drop a)).1,.bool (thrOk last (thr last (-1) ((byt s).drop a)).1)])/\ScAt w' b s (a+(thr last (-1) ((byt s).drop a)).2)/\ -1<=(thr last (-1) ((byt s).drop a)).1/\(thr last (-1) ((byt s).drop a)).1<=63:=by
 have H:Hid (ThrIn w b s last a (-1) a w):=⟨ir _ _,h,K,by omega,by omega,rfl,rfl⟩;clear h;unfold pt;go_enter Tryz.func142,Tryz.ntmps142
 go_wp2_with fail
 go_loopw [6] (fun i w'=>∃ (n':Int) (d:Nat),i= .int .i64 n'/\Hid (ThrIn w b s last a n' d w')) (fun _ w'=>s.size - atOf w' b)
 case atStart=>exact⟨-1,a,rfl,H.out⟩
 case round=>
  obtain⟨n',d,rfl,f⟩:=hrel;have n:=f.out.lo;have m:=f.out.hi;have I:Hid (atOf wr b=d):=jI f.out.sc;go_wp2_with fail
  refine(uO s b d _ f.out.sc f.out.le).mono ?_;rintro e x ⟨B,rfl⟩;have k:Hid (ThrIn w b s last a n' d x):=⟨iR f.out.grown B,f.out.sc.like B,f.out.le,n,m,f.out.num,f.out.len⟩;have fin:∀ z,Like z x->(thr last n' ((byt s).drop d))=(n',0)->w.grownBy z (some b)/\(thr last (-1) ((byt s).drop a)).1=n'/\ScAt z b s (a+(thr last (-1) ((byt s).drop a)).2):=by
   intro z F L;have q:=k.out.num;have r:=k.out.len;rw [L]at q r;refine⟨iR k.out.grown F,q.symm,?_⟩;rw [<-r];exact k.out.sc.like F
  have A:=ij fin;clear fin B f;cases hc:(byt s)[d]? with
  | none=>
   have p:Hid (thr last n' ((byt s).drop d)=(n',0)):=by
    unfold Hid;rw [List.drop_eq_nil_of_le (List.getElem?_eq_none_iff.1 hc)];rfl
   simp only [digV];go_wp2_with fail
   all_goals
    refine bodyPost_ret (v:= .tuple #[.int .i64 n',.bool (n' != -1 && n' !=last)]) (by simp [results,Tryz.results142,go_sem, *]) rfl ?_;obtain⟨t,j,u⟩:=A.out x (iT _) p.out;exact⟨t,by rw [j];rfl,u,by rw [j];exact n,by rw [j];exact m⟩
  | some c=>
   have o:=kD hc;cases hd:isD c with
   | false=>
    have p:Hid (thr last n' ((byt s).drop d)=(n',0)):=by
     unfold Hid;rw [o];exact tt (by rw [hd];rfl)
    simp only [digV,hd,Bool.false_eq_true,if_false];clear o;go_wp2_with fail
    all_goals
     refine bodyPost_ret (v:= .tuple #[.int .i64 n',.bool (n' != -1 && n' !=last)]) (by simp [results,Tryz.results142,go_sem, *]) rfl ?_;obtain⟨t,j,u⟩:=A.out x (iT _) p.out;exact⟨t,by rw [j];rfl,u,by rw [j];exact n,by rw [j];exact m⟩
   | true=>
    have hcr:48<=c/\c<=57:=by simpa [isD]using hd
    simp only [digV,hd,if_true];have E:=jt hc;cases hg:growsB n' ((c:Int) - 48) last with
    | false=>
     have p:Hid (thr last n' ((byt s).drop d)=(n',0)):=by
      unfold Hid;rw [o];exact tt (by rw [hg];simp)
     clear o;go_wp2_with (go_at_call 177;refine(qR _ _ _ _ n m (by omega) (by omega)).mono ?_;rintro e w' ⟨rfl,rfl⟩;rw [hg])
     all_goals
      refine bodyPost_ret (v:= .tuple #[.int .i64 n',.bool (n' != -1 && n' !=last)]) (by simp [results,Tryz.results142,go_sem, *]) rfl ?_;obtain⟨t,j,u⟩:=A.out _ (iT _) p.out;exact⟨t,by rw [j];rfl,u,by rw [j];exact n,by rw [j];exact m⟩
    | true=>
     have G:=zr (l:=(byt s).drop (d+1)) hd hg;have M:=vW hg;have y:Hid (ThrIn w b s last a (nxt n' c) (d+1) (x.setCell ⟨b,1,none⟩ (.int .i64 (d+1:Nat)))):=by
      have q:=k.out.num;have r:=k.out.len;rw [o,G]at q r;exact⟨il k.out.grown iM,k.out.sc.set (d+1),by rw [iL]at E;omega,by unfold nxt;omega,M,q,by simp only at r;omega⟩
     have c1:=k.out.sc.c1;have f1:=k.out.sc.f1;rw [iL]at E;have hsz:(d:Int)+1<=9223372036854775807:=by omega
     have D:Hid (atOf wr b=d):=I.out;clear o G;by_cases hneg:n'<0
     ·have C:Hid (nxt n' c=(c:Int) - 48):=by unfold Hid nxt;omega
      go_wp2_with (go_at_call 177;refine(qR _ _ _ _ n m (by omega) (by omega)).mono ?_;rintro e w' ⟨rfl,rfl⟩;rw [hg])
      go_roundw
      case rel=>exact⟨nxt n' c,d+1,by rw [C.out],ij (by simpa using y.out)⟩
      case measure=>
       have:=jI y.out.sc;have J:=D.out;simp only [Int.natCast_add,Int.natCast_one]at this;omega
     ·have C:Hid (nxt n' c=n'*10+((c:Int) - 48)):=by unfold Hid nxt;omega
      go_wp2_with (go_at_call 177;refine(qR _ _ _ _ n m (by omega) (by omega)).mono ?_;rintro e w' ⟨rfl,rfl⟩;rw [hg])
      go_roundw
      case rel=>exact⟨nxt n' c,d+1,by rw [C.out],ij (by simpa using y.out)⟩
      case measure=>
       have:=jI y.out.sc;have J:=D.out;simp only [Int.natCast_add,Int.natCast_one]at this;omega
structure CntIn(w:World)(b:Nat)(s:ByteArray)(a:Nat)(n':Int)(a':Nat)(w':World):Prop where
 grown:w.grownBy w' (some b)
 sc:ScAt w' b s a'
 le:a'<=s.size
 lo:0<=n'
 hi:n'<=501
 num:(cnt n' ((byt s).drop a')).1=(cnt 0 ((byt s).drop a)).1
 len:a'+(cnt n' ((byt s).drop a')).2=a+(cnt 0 ((byt s).drop a)).2
theorem xH{n:Int}{c:Nat}{l:List Nat}(a:(isD c && !(n==0 && c==48))=true):cnt n (c::l)=((cnt (min (10*n+((c:Int) - 48)) 501) l).1,(cnt (min (10*n+((c:Int) - 48)) 501) l).2+1):=by
 rw [cnt,if_pos a]
theorem rV{n:Int}{c:Nat}{l:List Nat}(h:(isD c && !(n==0 && c==48))=false):cnt n (c::l)=(n,0):=by
 rw [cnt,if_neg (by rw [h];simp)]
theorem zT(s:ByteArray)(b a:Nat)(w:World)(h:ScAt w b s a)(J:a<=s.size)(hs:s.size<=9223372036854775806):
  Calls Tryz.prog 143 #[pt b] w fun e w'=>w.grownBy w' (some b)/\
   e= .returned (.int .i64 (cnt 0 ((byt s).drop a)).1)/\ScAt w' b s (a+(cnt 0 ((byt s).drop a)).2)/\0<=(cnt 0 ((byt s).drop a)).1/\(cnt 0 ((byt s).drop a)).1<=501:=by
 have H:Hid (CntIn w b s a 0 a w):=⟨ir _ _,h,J,by omega,by omega,rfl,rfl⟩;clear h;unfold pt;go_enter Tryz.func143,Tryz.ntmps143
 go_wp2_with fail
 go_loopw [3] (fun i w'=>∃ (n':Int) (d:Nat),i= .int .i64 n'/\Hid (CntIn w b s a n' d w')) (fun _ w'=>s.size - atOf w' b)
 case atStart=>exact⟨0,a,rfl,H.out⟩
 case round=>
  obtain⟨n',d,rfl,j⟩:=hrel;have z:=j.out.lo;have y:=j.out.hi;have x:Hid (atOf wr b=d):=jI j.out.sc;go_wp2_with fail
  refine(uO s b d _ j.out.sc j.out.le).mono ?_;rintro e A ⟨D,rfl⟩;have m:Hid (CntIn w b s a n' d A):=⟨iR j.out.grown D,j.out.sc.like D,j.out.le,z,y,j.out.num,j.out.len⟩;have fin:(cnt n' ((byt s).drop d))=(n',0)->w.grownBy A (some b)/\(cnt 0 ((byt s).drop a)).1=n'/\ScAt A b s (a+(cnt 0 ((byt s).drop a)).2):=by
   intro K;have r:=m.out.num;have t:=m.out.len;rw [K]at r t;refine⟨m.out.grown,r.symm,?_⟩;rw [<-t];exact m.out.sc
  have B:=ij fin;clear fin D j;cases hc:(byt s)[d]? with
  | none=>
   have q:Hid (cnt n' ((byt s).drop d)=(n',0)):=by
    unfold Hid;rw [List.drop_eq_nil_of_le (List.getElem?_eq_none_iff.1 hc)];rfl
   simp only [digV];go_wp2_with fail
   go_ret;obtain⟨u,k,v⟩:=B.out q.out;exact⟨u,by rw [k];rfl,v,by rw [k];exact z,by rw [k];exact y⟩
  | some c=>
   have p:=kD hc;have I:=jt hc;rw [iL]at I;cases hd:isD c with
   | false=>
    have q:Hid (cnt n' ((byt s).drop d)=(n',0)):=by
     unfold Hid;rw [p];exact rV (by rw [hd];rfl)
    simp only [digV,hd,Bool.false_eq_true,if_false];clear p;go_wp2_with fail
    go_ret;obtain⟨u,k,v⟩:=B.out q.out;exact⟨u,by rw [k];rfl,v,by rw [k];exact z,by rw [k];exact y⟩
   | true=>
    have hcr:48<=c/\c<=57:=by simpa [isD]using hd
    simp only [digV,hd,if_true];by_cases G:n'=0/\c=48
    ·obtain⟨rfl,rfl⟩:=G;have q:Hid (cnt 0 ((byt s).drop d)=(0,0)):=by
      unfold Hid;rw [p];exact rV rfl
     clear p;go_wp2_with fail
     go_ret;obtain⟨u,k,v⟩:=B.out q.out;exact⟨u,by rw [k];rfl,v,by rw [k];exact z,by rw [k];exact y⟩
    ·have F:=xH (n:=n') (l:=(byt s).drop (d+1)) (show (isD c && !(n'==0 && c==48))=true by
      rw [hd];simp;omega)
     have f:Hid (CntIn w b s a (min (10*n'+((c:Int) - 48)) 501) (d+1) (A.setCell ⟨b,1,none⟩ (.int .i64 (d+1:Nat)))):=by
      have r:=m.out.num;have t:=m.out.len;rw [p,F]at r t;exact⟨il m.out.grown iM,m.out.sc.set (d+1),by omega,by omega,by omega,r,by simp only at t;omega⟩
     have c1:=m.out.sc.c1;have f1:=m.out.sc.f1;have hsz:(d:Int)+1<=9223372036854775807:=by omega
     clear p F;have E:n'=0->((c:Int) - 48==0)=false:=fun h=>by simp;omega
     clear G;cases hq:(n'==0)with
     | true=>
      have hq3:=E (by simpa using hq);clear E;by_cases L:501<10*n'+((c:Int) - 48)
      ·have o:Hid (min (10*n'+((c:Int) - 48)) 501=501):=by unfold Hid;omega
       go_wp2_with fail
       all_goals
        go_roundw
        case rel=>exact⟨_,d+1,rfl,ij (by rw [o.out]at f;simpa using f.out)⟩
        case measure=>
         have:=jI f.out.sc;have C:=x.out;simp only [Int.natCast_add,Int.natCast_one]at this;omega
      ·have o:Hid (min (10*n'+((c:Int) - 48)) 501=10*n'+((c:Int) - 48)):=by unfold Hid;omega
       go_wp2_with fail
       all_goals
        go_roundw
        case rel=>exact⟨_,d+1,rfl,ij (by rw [o.out]at f;simpa using f.out)⟩
        case measure=>
         have:=jI f.out.sc;have C:=x.out;simp only [Int.natCast_add,Int.natCast_one]at this;omega
     | false=>
      clear E;by_cases L:501<10*n'+((c:Int) - 48)
      ·have o:Hid (min (10*n'+((c:Int) - 48)) 501=501):=by unfold Hid;omega
       go_wp2_with fail
       all_goals
        go_roundw
        case rel=>exact⟨_,d+1,rfl,ij (by rw [o.out]at f;simpa using f.out)⟩
        case measure=>
         have:=jI f.out.sc;have C:=x.out;simp only [Int.natCast_add,Int.natCast_one]at this;omega
      ·have o:Hid (min (10*n'+((c:Int) - 48)) 501=10*n'+((c:Int) - 48)):=by unfold Hid;omega
       go_wp2_with fail
       all_goals
        go_roundw
        case rel=>exact⟨_,d+1,rfl,ij (by rw [o.out]at f;simpa using f.out)⟩
        case measure=>
         have:=jI f.out.sc;have C:=x.out;simp only [Int.natCast_add,Int.natCast_one]at this;omega
def runT(s:ByteArray)(a:Nat)(last:Int):RunP:=runP last ((byt s).drop a)
theorem AT{s:ByteArray}{a:Nat}{last:Int}(h:(thrOk last (thr last (-1) ((byt s).drop a)).1 && hitB s (a+(thr last (-1) ((byt s).drop a)).2) 42)=false):
  runT s a last=⟨(thr last (-1) ((byt s).drop a)).1,1,thrOk last (thr last (-1) ((byt s).drop a)).1,(thr last (-1) ((byt s).drop a)).2⟩:=by
 unfold runT runP;rw [if_neg];unfold hitB at h;rw [List.getElem?_drop,h];simp
theorem ze{s:ByteArray}{a:Nat}{last:Int}(c:thrOk last (thr last (-1) ((byt s).drop a)).1=true)(b:hitB s (a+(thr last (-1) ((byt s).drop a)).2) 42=true):
  runT s a last=⟨(thr last (-1) ((byt s).drop a)).1,(cnt 0 ((byt s).drop (a+(thr last (-1) ((byt s).drop a)).2+1))).1,decide (1<(cnt 0 ((byt s).drop (a+(thr last (-1) ((byt s).drop a)).2+1))).1),
   (thr last (-1) ((byt s).drop a)).2+1+(cnt 0 ((byt s).drop (a+(thr last (-1) ((byt s).drop a)).2+1))).2⟩:=by
 unfold runT runP;unfold hitB at b;rw [if_pos (by rw [List.getElem?_drop,c,b];rfl),List.drop_drop];simp only [Nat.add_assoc]
def RunTx(s:ByteArray)(b a:Nat)(last:Int)(w:World)(e:Ending)(w':World):Prop:=
 w.grownBy w' (some b)/\e= .returned (.tuple #[.agg #[.int .i64 (runT s a last).thread,.int .i64 (runT s a last).count],.bool (runT s a last).ok])/\ScAt w' b s (a+(runT s a last).len)/\
  0<=(runT s a last).count/\(runT s a last).count<=501/\ -1<=(runT s a last).thread/\(runT s a last).thread<=63
theorem ScAt.grown{w w':World}{b:Nat}{s:ByteArray}{a:Nat}(h:ScAt w b s a)(c:w.grownBy w' none):ScAt w' b s a:=by
 have d:=h.lt;unfold ScAt at*;rw [c.block b d (by simp)];exact h
theorem ScAt.setOther{w:World}{b g o:Nat}{v:Value}{s:ByteArray}{a:Nat}(h:ScAt w b s a)(c:b≠g):ScAt (w.setCell ⟨g,o,none⟩ v) b s a:=by
 unfold ScAt at*;rw [Below.heap_setCell _ _ _ _ (by simpa using c)];exact h
theorem BV(s:ByteArray)(b a:Nat)(last:Int)(w:World)(h:ScAt w b s a)(ha:a<=s.size)(K:s.size<=9223372036854775806):
  Calls Tryz.prog 101 #[pt b,.int .i64 last] w (RunTx s b a last w):=by
 have hb:=h.lt;have W:=ij h;clear h;have aj:pt b= .pointer (some ⟨b,0,none⟩):=rfl;rw [aj];go_enter Tryz.func101,Tryz.ntmps101
 go_wp2_with fail
 refine(zt s b a last _ (W.out.grown (iq (ir _ _))) ha K).mono ?_;rintro e j ⟨t,rfl,R,J,I⟩;have U:w.grownBy j (some b):=il (iq (ir _ _)) t;have an:w.heap.size<j.heap.size:=by have:=t.size;simp at this;omega
 have Q:j.heap[w.heap.size]?=some (.cells #[.int .i64 0,.int .i64 0] 187 (0,0)):=by
  rw [t.block w.heap.size (by simp) (by simp;omega)];exact heap_alloc_new w _
 have N:=ij U;have M:=ij R;have p:=ij Q;have ai:a+(thr last (-1) ((byt s).drop a)).2<=s.size:=by
  have:=vf last (-1) ((byt s).drop a);rw [List.length_drop,iL]at this;omega
 have F:= @AT s a last;have P:= @ze s a last;clear t U R Q;generalize thr last (-1) ((byt s).drop a)=T at*;obtain⟨n,k⟩:=T;simp only at*;have fin:∀ (d:World) (x y:Int) (z:Bool) (l:Nat),runT s a last=⟨x,y,z,l⟩->w.grownBy d (some b)->ScAt d b s (a+l)->d.heap[w.heap.size]?=some (.cells #[.int .i64 0,.int .i64 0] 187 (0,0))->0<=y->y<=501-> -1<=x->x<=63->
   RunTx s b a last w (.returned (.tuple #[.agg #[.int .i64 x,.int .i64 y],.bool z])) ((d.setCell ⟨w.heap.size,0,none⟩ (.int .i64 x)).setCell ⟨w.heap.size,1,none⟩ (.int .i64 y))/\
   ((d.setCell ⟨w.heap.size,0,none⟩ (.int .i64 x)).setCell ⟨w.heap.size,1,none⟩ (.int .i64 y)).heap[w.heap.size]?=some (.cells #[.int .i64 x,.int .i64 y] 187 (0,0)):=by
  intro d x y z l hr hg am al h1 h2 h3 h4;refine⟨?_,?_⟩
  ·unfold RunTx;rw [hr];exact⟨iD (iD hg (Nat.le_refl _)) (Nat.le_refl _),rfl,(am.setOther (by omega)).setOther (by omega),h1,h2,h3,h4⟩
  ·rw [heap_setCell_same _ _ 1 _ _ _ (heap_setCell_same _ _ 0 _ _ _ al)];rfl
 have D:=ij fin;have hne:w.heap.size≠b:=by omega
 have z1:j.cell? ⟨w.heap.size,0,none⟩=some (.int .i64 0):=by have:=p.out;simp [World.cell?,this]
 have z2:j.cell? ⟨w.heap.size,1,none⟩=some (.int .i64 0):=by have:=p.out;simp [World.cell?,this]
 have z3:j.frozen? ⟨w.heap.size,0,none⟩=false:=by have:=p.out;simp [World.frozen?,this]
 have z4:j.frozen? ⟨w.heap.size,1,none⟩=false:=by have:=p.out;simp [World.frozen?,this]
 clear fin;cases hok:thrOk last n with
 | false=>
  have i:=F (by rw [hok];rfl);rw [hok]at i;go_wp2_with fail
  obtain⟨f1,f⟩:=D.out j n 1 false k i N.out M.out p.out (by omega) (by omega) J I;refine bodyPost_ret (v:= .tuple #[.agg #[.int .i64 n,.int .i64 1],.bool false]) ?_ rfl f1;have A:=cell_of_row _ _ 0 _ _ _ f;have B:=cell_of_row _ _ 1 _ _ _ f;simp at A B;simp [results,Tryz.results101,go_sem,A,B]
 | true=>
  go_wp2_with (go_at_call 100;refine(rJ s b _ 42 _ M.out ai K).mono ?_)
  rintro e d ⟨u,rfl,m⟩;have O:Hid (w.grownBy d (some b)):=il N.out u;have q:d.heap[w.heap.size]?=some (.cells #[.int .i64 0,.int .i64 0] 187 (0,0)):=by
   rw [u.block w.heap.size an (by simp;omega)];exact p.out
  have ao:w.heap.size<d.heap.size:=by have:=u.size;omega
  have A:d.cell? ⟨w.heap.size,0,none⟩=some (.int .i64 0):=by simp [World.cell?,q]
  have B:d.cell? ⟨w.heap.size,1,none⟩=some (.int .i64 0):=by simp [World.cell?,q]
  have y3:d.frozen? ⟨w.heap.size,0,none⟩=false:=by simp [World.frozen?,q]
  have y4:d.frozen? ⟨w.heap.size,1,none⟩=false:=by simp [World.frozen?,q]
  have L:=ij q;clear u q z1 z2 z3 z4;unfold skAt at m;cases hit:hitB s (a+k) 42 with
  | false=>
   have i:=F (by rw [hit];simp);rw [hok]at i;rw [hit,if_neg (by simp)]at m;have E:=ij m;clear m;go_wp2_with fail
   obtain⟨f1,f⟩:=D.out d n 1 true k i O.out E.out L.out (by omega) (by omega) J I;refine bodyPost_ret (v:= .tuple #[.agg #[.int .i64 n,.int .i64 1],.bool true]) ?_ rfl f1;have x1:=cell_of_row _ _ 0 _ _ _ f;have x2:=cell_of_row _ _ 1 _ _ _ f;simp at x1 x2;simp [results,Tryz.results101,go_sem,x1,x2]
  | true=>
   have i:=P hok hit;rw [hit,if_pos rfl]at m;have E:=ij m;have hlt:a+k<s.size:=by
    unfold hitB at hit;have:(byt s)[a+k]?=some 42:=by simpa using hit
    have:=jt this;rwa [iL]at this
   clear m F P;have e1:a+k+1=a+(k+1):=by omega
   have G:=zT s b (a+k+1) d E.out (by omega) K;generalize cnt 0 ((byt s).drop (a+k+1))=C at*;obtain⟨c,l⟩:=C;simp only at G i;have V:=ij G;clear G;go_wp2_with (go_at_call 143;refine V.out.mono ?_)
   rintro e o ⟨H,rfl,S,af,ag⟩;have Z:Hid (w.grownBy o (some b)):=il O.out H;have r:o.heap[w.heap.size]?=some (.cells #[.int .i64 0,.int .i64 0] 187 (0,0)):=by
    rw [H.block w.heap.size ao (by simp;omega)];exact L.out
   have x1:o.cell? ⟨w.heap.size,0,none⟩=some (.int .i64 0):=by simp [World.cell?,r]
   have x2:o.cell? ⟨w.heap.size,1,none⟩=some (.int .i64 0):=by simp [World.cell?,r]
   have x3:o.frozen? ⟨w.heap.size,0,none⟩=false:=by simp [World.frozen?,r]
   have x4:o.frozen? ⟨w.heap.size,1,none⟩=false:=by simp [World.frozen?,r]
   have X:=ij r;have Y:=ij S;clear H r S A B y3 y4;go_wp2_with fail
   all_goals
    obtain⟨f1,f⟩:=D.out o n c (decide (1<c)) (k+1+l) (by rw [i]) Z.out (by have:=Y.out;rwa [show a+k+1+l=a+(k+1+l) by omega]at this) X.out af ag J I;refine bodyPost_ret (v:= .tuple #[.agg #[.int .i64 n,.int .i64 c],.bool (decide (1<c))]) ?_ rfl f1;have x1:=cell_of_row _ _ 0 _ _ _ f;have x2:=cell_of_row _ _ 1 _ _ _ f;simp at x1 x2;simp [results,Tryz.results101,go_sem,x1,x2]
theorem yt(l:List Int)(t:Int)(k:Nat):ints (l++List.replicate (k+1) t)=ints (l++List.replicate k t)++[.int .i64 t]:=by
 rw [List.replicate_succ',<-List.append_assoc,wq]
theorem rP(a w:World)(r:Option Nat)(sv:Value)(l:List Int)(t:Int)(c:Nat)(h:w.ownsRow a.heap.size 3 1 sv l.length (ints l))(E:a.grownBy w r)(hc:c<=501)(hl:l.length<=501):
  Calls Tryz.prog 102 #[sv,.agg #[.int .i64 t,.int .i64 c]] w fun e w'=>∃ sv',e= .returned sv'/\w'.ownsRow a.heap.size 3 1 sv' (l++List.replicate c t).length (ints (l++List.replicate c t))/\a.grownBy w' r/\w.grownBy w' sv.ownBlock/\((∃ x y z,sv'= .slice x y z)):=by
 obtain⟨Z,S,W,X,Y⟩:=info_parts ji;obtain⟨u,A,v,rfl⟩:=iw h;have J:=ij h;have O:=ij E;have hW0:=E.size;clear h E;go_enter Tryz.func102,Tryz.ntmps102
 go_wp2_with fail
 go_loopw [0,7] (fun lv i w'=>∃ k:Nat,k<=c/\i= .int .i64 k/\Hid (w'.ownsRow a.heap.size 3 1 lv (l.length+k) (ints (l++List.replicate k t))/\a.grownBy w' r/\w'.heap[w.heap.size]?=some (.cells #[.int .i64 t,.int .i64 c] 187 (0,0))/\lv.ownBlock≠some w.heap.size/\w.grownBy w' (Value.slice u A v).ownBlock/\∀ k,lv.ownBlock=some k->(Value.slice u A v).ownBlock=some k\/w.heap.size<=k)) (fun _ i _=>c - (intOf i).toNat)
 case atStart=>
  refine⟨0,Nat.zero_le _,rfl,?_,iq O.out,heap_alloc_new _ _,?_,iq (ir _ _),fun k e=>Or.inl e⟩
  ·simpa using iG (o:= .cells #[.int .i64 t,.int .i64 c] 187) J.out
  ·intro e;rcases J.out.2 with ⟨e1,_⟩ | ⟨g,cap,cur,hv,_,hh,_⟩
   ·rw [e1]at e;cases e
   ·rw [hv]at e;simp [Value.ownBlock]at e;have:=(Array.getElem?_eq_some_iff.1 hh).1;omega
 case round=>
  obtain⟨k,hk,rfl,I⟩:=hrel;obtain⟨b,V⟩:∃ b,b=wr:=⟨_,rfl⟩;subst V;obtain⟨j,p,m,G,s,H⟩:=I.out;have d0:b.cell? ⟨w.heap.size,0,none⟩=some (.int .i64 t):=by simp [World.cell?,m]
  have d1:b.cell? ⟨w.heap.size,1,none⟩=some (.int .i64 c):=by simp [World.cell?,m]
  have T:w.heap.size<b.heap.size:=(Array.getElem?_eq_some_iff.1 m).1;by_cases hkl:k<c
  ·have q3:(k:Int)<c:=by omega
   have R:l.length+k+1<=maxLen:=by unfold maxLen;omega
   have U:=iA j;have B:=ij j;have n:=ij p;have P:=ij m;have K:=ij G;have C:=ij s;have L:=ij H;have hn:b.heap.size≠w.heap.size:=by omega
   clear j p m G s H;go_wp2_with (at_builtin;refine wpList_append_lies _ rfl _ _ _ rfl a.heap.size 3 Z _ 1 8 Tryz.underlying39 S W X Y rfl (by omega) u0 (l.length+k) (ints (l++List.replicate k t)) rfl (iG B.out) ⟨b.heap.size,0,none⟩ 1 1 [.int .i64 t] rfl rfl (World.news_of_block (cs:= #[.int .i64 t]) (t:=3) (fr:=(0,0)) (heap_alloc_new b _)) (by simp [Value.oneCell']) (by omega) R (by omega) (by simp;have:=n.out.size;omega) (b.heap.size+1) (by simp) ?_;intro g6 D w6 M d F hlt6)
   have N:Hid (w6.ownsRow a.heap.size 3 1 (.slice (some ⟨g6,0,none⟩) (l.length+k+1) D) (l.length+(k+1)) (ints (l++List.replicate (k+1) t))/\a.grownBy w6 r/\w6.heap[w.heap.size]?=some (.cells #[.int .i64 t,.int .i64 c] 187 (0,0))/\(Value.slice (some ⟨g6,0,none⟩) (l.length+k+1) D).ownBlock≠some w.heap.size/\w.grownBy w6 (Value.slice u A v).ownBlock/\∀ q,(Value.slice (some ⟨g6,0,none⟩) (l.length+k+1) D).ownBlock=some q->(Value.slice u A v).ownBlock=some q\/w.heap.size<=q):=by
    refine⟨?_,iZ (iq n.out) d (fun q e=>U q e),?_,?_,?_,?_⟩
    ·rw [yt];exact M
    ·rw [d.block _ (by simp;omega) (fun e=>K.out e.symm),Below.heap_alloc _ _ _ T];exact P.out
    ·simp only [Value.ownBlock];rcases F with e | e
     ·rw [<-e];exact K.out
     ·rw [e];simp;omega
    ·have f:=iq (o:= .cells #[.int .i64 t] 3) C.out;refine⟨d.os.trans f.os,d.tape.trans f.tape,d.output.trans f.output,Nat.le_trans f.size d.size,fun q hq hr=>?_⟩;rw [d.block q (Nat.lt_of_lt_of_le hq f.size) (fun e=>by
      rcases L.out q e.symm with e2 | e2
      ·exact hr e2.symm
      ·omega)]
     exact f.block q hq hr
    ·intro q e;rcases F with e2 | e2
     ·exact L.out q (by rw [e2];exact e)
     ·right
      simp only [Value.ownBlock,Option.some.injEq]at e;omega
   clear M d F;go_wp2
   go_roundw
   case rel=>exact⟨k+1,by omega,by go_num,N⟩
   case measure=>simp [intOf];omega
  ·have Q:k=c:=by omega
   have q2:(c:Int)<=(k:Int):=by omega
   subst Q;have B:=ij j;have n:=ij p;obtain⟨m1,m2,m3,rfl⟩:=iw j;have C:=ij s;clear j p m G s H I;go_wp2
   go_ret;exact⟨_,rfl,by simpa using B.out,n.out,C.out,_,_,_,rfl⟩
def endP(s:ByteArray)(sch:List Int)(total:Int)(a:Nat):ParP:=if a<s.size then ⟨[],a,false⟩ else if total=501 then ⟨[],0,false⟩ else ⟨sch,0,true⟩
theorem yC{f:Nat}{b:List Int}{last c:Int}{a:Nat}{s:ByteArray}(h:(runT s a last).ok=false):loopP (f+1) b last c a ((byt s).drop a)=⟨[],a+(runT s a last).len,false⟩:=by
 rw [loopP];unfold runT at*;rw [if_neg (by rw [h];simp)]
theorem nt{f:Nat}{d:List Int}{last b:Int}{a:Nat}{s:ByteArray}(h:(runT s a last).ok=true)(c:hitB s (a+(runT s a last).len) 32=true):
  loopP (f+1) d last b a ((byt s).drop a)=loopP f (addRun d (min (b+(runT s a last).count) 501) (runT s a last).count (runT s a last).thread) (runT s a last).thread (min (b+(runT s a last).count) 501) (a+(runT s a last).len+1) ((byt s).drop (a+(runT s a last).len+1)):=by
 have e:(byt s)[a+(runT s a last).len]?=some 32:=by unfold hitB at c;simpa using c
 have i:=kD e;rw [loopP];unfold runT at*;rw [if_pos h,List.drop_drop,i];simp only [if_true]
theorem oN{f:Nat}{i:List Int}{last e:Int}{a:Nat}{s:ByteArray}(h:(runT s a last).ok=true)(d:hitB s (a+(runT s a last).len) 32=false):
  loopP (f+1) i last e a ((byt s).drop a)=endP s (addRun i (min (e+(runT s a last).count) 501) (runT s a last).count (runT s a last).thread) (min (e+(runT s a last).count) 501) (a+(runT s a last).len):=by
 unfold hitB at d;rw [loopP];unfold runT endP at*;rw [if_pos h,List.drop_drop];cases h3:(byt s)[a+(runP last ((byt s).drop a)).len]? with
 | none=>
  have b:=List.getElem?_eq_none_iff.1 h3;rw [List.drop_eq_nil_of_le b];rw [iL]at b;rw [if_neg (show ¬a+(runP last ((byt s).drop a)).len<s.size by omega)]
 | some c=>
  have j:=kD h3;have b:=jt h3;rw [iL]at b;rw [j,if_pos b];rw [h3]at d;have:c≠32:=by simpa using d
  simp only [if_neg this]
structure ParIn(W0:World)(b:Nat)(s:ByteArray)(f:Nat)(sch:List Int)(last total:Int)(a:Nat)(w':World):Prop where
 grown:W0.grownBy w' (some b)
 sc:ScAt w' b s a
 le:a<=s.size
 lo: -1<=last
 hi:last<=63
 t0:0<=total
 t1:total<=501
 sl:(sch.length:Int)<=total
 fu:s.size - a<f
 eq:loopP f sch last total a ((byt s).drop a)=parseP (byt s)
structure ParEnd(W0:World)(b:Nat)(s:ByteArray)(sch:List Int)(total:Int)(a:Nat)(w':World):Prop where
 grown:W0.grownBy w' (some b)
 sc:ScAt w' b s a
 le:a<=s.size
 t0:0<=total
 t1:total<=501
 sl:(sch.length:Int)<=total
 eq:endP s sch total a=parseP (byt s)
def mPar(m:Value)(w:World)(b n:Nat):Nat:=match m with
 | .bool true=>n+1 - atOf w b
 | _=>0
def ParsedAt(s:ByteArray)(w:World)(e:Ending)(w':World):Prop:=
 ∃ x y z,e= .returned (.tuple #[.slice x y z,.int .i64 (parseP (byt s)).at_,.bool (parseP (byt s)).ok])/\w'.ownsRow (w.heap.size+1) 3 1 (.slice x y z) (parseP (byt s)).out.length (ints (parseP (byt s)).out)/\w.grownBy w' none
theorem zd(s:ByteArray)(a:Nat)(last:Int)(ha:a<=s.size):a+(runT s a last).len<=s.size:=by
 have:=(vr last ((byt s).drop a)).len;rw [List.length_drop,iL]at this;unfold runT;omega
theorem yW(s:ByteArray)(w:World)(hs:s.size<=9223372036854775806):
  Calls Tryz.prog 72 #[.string s] w (ParsedAt s w):=by
 obtain⟨b,N⟩:∃ b,b=w.heap.size:=⟨_,rfl⟩;obtain⟨n,M⟩:∃ n,n=w.alloc (.cells #[.string s,.int .i64 0] 184):=⟨_,rfl⟩;have aK:ScAt n b s 0:=by unfold ScAt;rw [M,N];exact heap_alloc_new w _
 have aE:n.heap.size=b+1:=by rw [M,N];simp
 have P:w.grownBy n none:=by rw [M];exact iq (ir _ _)
 have au:Hid (∀ w',n.grownBy w' (some b)->w.grownBy w' none):=by
  intro w' h;refine⟨h.os.trans P.os,h.tape.trans P.tape,h.output.trans P.output,Nat.le_trans P.size h.size,fun k hk _=>?_⟩;rw [h.block k (by omega) (by simp;omega)];exact P.block k hk (by simp)
 have aA:=ij aK;clear aK;have fin:∀ u,n.grownBy u (some b)->∀ (x:Option Addr) (y z:Nat) (p:ParP),p=parseP (byt s)->u.ownsRow (b+1) 3 1 (.slice x y z) p.out.length (ints p.out)->ParsedAt s w (.returned (.tuple #[.slice x y z,.int .i64 p.at_,.bool p.ok])) u:=by
  intro u hg x y z p C ho;subst C;exact⟨x,y,z,rfl,by rw [<-N];exact ho,au.out _ hg⟩
 have T:=ij fin;clear fin au;have aI:∀ u:World,u.ownsRow (b+1) 3 1 (.slice none 0 0) ([]:List Int).length (ints []):=fun u=>⟨rfl,Or.inl ⟨rfl,rfl⟩⟩
 have V:=ij aI;clear aI;go_enter Tryz.func72,Tryz.ntmps72
 by_cases O:s.size=0
 ·obtain rfl:s=⟨#[]⟩:=by
   obtain⟨d⟩:=s;simp [ByteArray.size]at O;rw [O]
  go_wp2_with fail
  rw [<-M,<-N];clear M N P;go_loopw [5,8,9] (fun sv t m w'=>sv= .slice none 0 0/\t= .int .i64 0/\m= .bool false/\w'=n) (fun _ _ _ _=>0)
  case atStart=>exact⟨rfl,rfl,rfl,rfl⟩
  case round=>
   obtain⟨rfl,rfl,rfl,rfl⟩:=hrel;have c1:wr.cell? ⟨b,1,none⟩=some (.int .i64 0):=aA.out.c1;have af:(⟨#[]⟩:ByteArray).size=0:=rfl;go_wp2_with fail
   refine bodyPost_ret (v:= .tuple #[.slice none 0 0,.int .i64 0,.bool true]) (by simp [results,Tryz.results72,go_sem]) rfl ?_;exact T.out _ (ir _ _) none 0 0 ⟨[],0,true⟩ rfl (V.out _)
 ·have aV:s≠⟨#[]⟩:=by intro e;rw [e]at O;simp [ByteArray.size]at O
  go_wp2_with fail
  rw [<-M,<-N];have H0:Hid (ParIn n b s (s.size+1) [] (-1) 0 0 n):=by
   refine⟨ir _ _,aA.out,by omega,by omega,by omega,by omega,by omega,by simp,by omega,?_⟩;unfold parseP;rw [if_neg (by intro e;have:=congrArg List.length e;rw [iL]at this;exact O this),iL];rfl
  have hbW:b<n.heap.size:=by omega
  have aG:s.toList.isEmpty=false:=by
   rw [ByteArray.toList_eq];cases hd:s.data.toList with
   | nil=>exact absurd (by have:=congrArg List.length hd;simpa using this) O
   | cons a b=>rfl
  rw [aG,Bool.not_false];clear aV O M P aG;clear N;go_loopw [5,7,8,9] (fun sv l t m w'=>∃ (j:List Int) (f:Nat) (last q:Int) (mb:Bool) (i:Nat),l= .int .i64 last/\t= .int .i64 q/\m= .bool mb/\Hid ((mb=true/\ParIn n b s f j last q i w')\/(mb=false/\ParEnd n b s j q i w'))/\Hid (w'.ownsRow (b+1) 3 1 sv j.length (ints j))) (fun _ _ _ m w'=>mPar m w' b s.size)
  case atStart=>exact⟨[],s.size+1, -1,0,true,0,rfl,rfl,rfl,ij (Or.inl ⟨rfl,H0.out⟩),ij (V.out _)⟩
  case round=>
   obtain⟨j,f,last,q,mb,i,rfl,rfl,rfl,HI,HO⟩:=hrel;obtain⟨x1,x2,x3,rfl⟩:=iw HO.out;rcases HI.out with ⟨rfl,C⟩ | ⟨rfl,C⟩
   ·have B:=ij C;have Q:Hid (atOf wr b=i):=jI C.sc;obtain⟨f,rfl⟩:∃ f',f=f'+1:=⟨f - 1,by have:=C.fu;omega⟩;have am:=C.le;have ht0:=C.t0;have ht1:=C.t1;have hsl:=C.sl;have hfu:=C.fu;clear C HI;go_wp2_with fail
    refine(BV s b i last _ B.out.sc am hs).mono ?_;rintro e S ⟨al,rfl,af,aR,hc1,aq,ap⟩;have an:=zd s i last am;have av:Hid (n.grownBy S (some b)):=il B.out.grown al;have aP:Hid (S.ownsRow (b+1) 3 1 (.slice x1 x2 x3) j.length (ints j)):=iC HO.out al (fun k e=>by simp at e;omega);have ay:=ij af;have hsz1:=af.lt;clear al af HO;cases hok:(runT s i last).ok with
    | false=>
     have HB:Hid (parseP (byt s)=⟨[],i+(runT s i last).len,false⟩):=by
      unfold Hid;rw [<-B.out.eq];exact yC hok
     have c1:=ay.out.c1;go_wp2_with fail
     go_quiet (fail)
     go_wp2_with fail
     refine bodyPost_ret (v:= .tuple #[.slice none 0 0,.int .i64 ((i+(runT s i last).len:Nat):Int),.bool false]) (by simp [results,Tryz.results72,go_sem]) rfl ?_;exact T.out _ (iO _ (iq av.out)) none 0 0 ⟨[],i+(runT s i last).len,false⟩ HB.out.symm (V.out _)
    | true=>
     have aw:∀ o,n.grownBy (S.alloc o) (some b):=fun o=>iq av.out
     have ax:∀ o,(S.alloc o).ownsRow (b+1) 3 1 (.slice x1 x2 x3) j.length (ints j):=fun o=>iG aP.out
     have aB:∀ o,ScAt (S.alloc o) b s (i+(runT s i last).len):=fun o=>ay.out.grown (iq (ir _ _))
     obtain⟨K,aa⟩:∃ K,K=S.alloc (.cells #[.int .i64 (runT s i last).thread,.int .i64 (runT s i last).count] 187):=⟨_,rfl⟩;have ac:Hid (K.ownsRow (b+1) 3 1 (.slice x1 x2 x3) j.length (ints j)):=by rw [aa];exact ax _
     have W:Hid (ScAt K b s (i+(runT s i last).len)):=by rw [aa];exact aB _
     have ai:Hid (n.grownBy K (some b)):=by rw [aa];exact aw _
     clear aw ax aB;have ak:=ij aa;clear aa;by_cases hm:501<q+(runT s i last).count
     ·have L:Hid (min (q+(runT s i last).count) 501=501):=by unfold Hid;omega
      have I:Hid (addRun j 501 (runT s i last).count (runT s i last).thread=j):=by
       unfold Hid addRun;rw [if_neg (by omega)]
      have J:(j.length:Int)<=501:=by omega
      have aL:b<K.heap.size:=W.out.lt;have Y:i+(runT s i last).len<=s.size:=an;go_wp2_with fail
      rw [<-ak.out];refine(rJ s b _ 32 _ W.out Y hs).mono ?_;rintro e u ⟨D,rfl,r⟩;have H:Hid (u.ownsRow (b+1) 3 1 (.slice x1 x2 x3) j.length (ints j)):=iC ac.out D (fun k e=>by simp at e;omega);have G:Hid (n.grownBy u (some b)):=il ai.out D;unfold skAt at r;cases hit:hitB s (i+(runT s i last).len) 32 with
      | true=>
       rw [hit,if_pos rfl]at r;have A:Hid (ParIn n b s f j (runT s i last).thread 501 (i+(runT s i last).len+1) u):=by
        have R:i+(runT s i last).len<s.size:=by
         unfold hitB at hit;have:=jt (show (byt s)[i+(runT s i last).len]?=some 32 by simpa using hit);rwa [iL]at this
        exact⟨G.out,r,by omega,aq,ap,by omega,by omega,J,by omega,by have e:=B.out.eq;rw [nt hok hit,L.out,I.out]at e;exact e⟩
       clear D r;go_wp2_with fail
       go_roundw
       case rel=>exact⟨j,f,(runT s i last).thread,501,true,i+(runT s i last).len+1,rfl,rfl,rfl,ij (Or.inl ⟨rfl,A.out⟩),H⟩
       case measure=>
        have X:=jI A.out.sc;have E:=Q.out;have e3:=A.out.le;simp only [mPar,X,E];omega
      | false=>
       rw [hit,if_neg (by simp)]at r;have A:Hid (ParEnd n b s j 501 (i+(runT s i last).len) u):=
        ⟨G.out,r,by omega,by omega,by omega,J,by have e:=B.out.eq;rw [oN hok hit,L.out,I.out]at e;exact e⟩
       clear D r;go_wp2_with fail
       go_roundw
       case rel=>exact⟨j,f,(runT s i last).thread,501,false,i+(runT s i last).len,rfl,rfl,rfl,ij (Or.inr ⟨rfl,A.out⟩),H⟩
       case measure=>
        have E:=Q.out;simp only [mPar,E];omega
     ·have L:Hid (min (q+(runT s i last).count) 501=(q+(runT s i last).count)):=by unfold Hid;omega
      by_cases ao:q+(runT s i last).count=501
      ·have I:Hid (addRun j (q+(runT s i last).count) (runT s i last).count (runT s i last).thread=j):=by
        unfold Hid addRun;rw [if_neg (by omega)]
       have J:(j.length:Int)<=(q+(runT s i last).count):=by omega
       have aU:¬(q+(runT s i last).count<501):=by omega
       have HM2:=ij ao;clear ao;have aL:b<K.heap.size:=W.out.lt;have Y:i+(runT s i last).len<=s.size:=an;go_wp2_with fail
       rw [<-ak.out];refine(rJ s b _ 32 _ W.out Y hs).mono ?_;rintro e u ⟨D,rfl,r⟩;have H:Hid (u.ownsRow (b+1) 3 1 (.slice x1 x2 x3) j.length (ints j)):=iC ac.out D (fun k e=>by simp at e;omega);have G:Hid (n.grownBy u (some b)):=il ai.out D;unfold skAt at r;cases hit:hitB s (i+(runT s i last).len) 32 with
       | true=>
        rw [hit,if_pos rfl]at r;have A:Hid (ParIn n b s f j (runT s i last).thread (q+(runT s i last).count) (i+(runT s i last).len+1) u):=by
         have R:i+(runT s i last).len<s.size:=by
          unfold hitB at hit;have:=jt (show (byt s)[i+(runT s i last).len]?=some 32 by simpa using hit);rwa [iL]at this
         exact⟨G.out,r,by omega,aq,ap,by omega,by omega,J,by omega,by have e:=B.out.eq;rw [nt hok hit,L.out,I.out]at e;exact e⟩
        clear D r;go_wp2_with fail
        go_roundw
        case rel=>exact⟨j,f,(runT s i last).thread,(q+(runT s i last).count),true,i+(runT s i last).len+1,rfl,rfl,rfl,ij (Or.inl ⟨rfl,A.out⟩),H⟩
        case measure=>
         have X:=jI A.out.sc;have E:=Q.out;have e3:=A.out.le;simp only [mPar,X,E];omega
       | false=>
        rw [hit,if_neg (by simp)]at r;have A:Hid (ParEnd n b s j (q+(runT s i last).count) (i+(runT s i last).len) u):=
         ⟨G.out,r,by omega,by omega,by omega,J,by have e:=B.out.eq;rw [oN hok hit,L.out,I.out]at e;exact e⟩
        clear D r;go_wp2_with fail
        go_roundw
        case rel=>exact⟨j,f,(runT s i last).thread,(q+(runT s i last).count),false,i+(runT s i last).len,rfl,rfl,rfl,ij (Or.inr ⟨rfl,A.out⟩),H⟩
        case measure=>
         have E:=Q.out;simp only [mPar,E];omega
      ·have aU:q+(runT s i last).count<501:=by omega
       obtain⟨c,hc⟩:=Int.eq_ofNat_of_zero_le aR;obtain⟨F,Z⟩:∃ F,F=j++List.replicate c (runT s i last).thread:=⟨_,rfl⟩;have I:Hid (addRun j (q+(runT s i last).count) (runT s i last).count (runT s i last).thread=F):=by
        unfold Hid addRun;rw [if_pos (by omega),Z,hc];rfl
       have J:(F.length:Int)<=(q+(runT s i last).count):=by rw [Z];simp;omega
       have ah:=rP n K (some b) (.slice x1 x2 x3) j (runT s i last).thread c (by rw [aE];exact ac.out) ai.out (by omega) (by omega);rw [aE,<-Z,<-hc]at ah;have ar:=ij ah;have HC:=ij hc;have HS3':=ij Z;clear ah hc Z;clear ao;go_wp2_with fail
       rw [<-ak.out];refine ar.out.mono ?_;rintro e w5 ⟨sv5,rfl,aJ,aF,aH,y1,y2,y3,rfl⟩;have az:Hid (ScAt w5 b s (i+(runT s i last).len)):=by
        have h3:=W.out;have aT:=h3.lt;have aX:=iA ac.out;unfold Hid ScAt at*;rw [aH.block b aT (fun e=>by have:=aX b e.symm;omega)];exact h3
       have aQ:=ij aJ;have aO:=ij aF;clear aJ aF aH ar;have aL:b<w5.heap.size:=az.out.lt;have Y:i+(runT s i last).len<=s.size:=an;go_wp2_with fail
       refine(rJ s b _ 32 _ az.out Y hs).mono ?_;rintro e u ⟨D,rfl,r⟩;have H:Hid (u.ownsRow (b+1) 3 1 (.slice y1 y2 y3) F.length (ints F)):=iC aQ.out D (fun k e=>by simp at e;omega);have G:Hid (n.grownBy u (some b)):=il aO.out D;unfold skAt at r;cases hit:hitB s (i+(runT s i last).len) 32 with
       | true=>
        rw [hit,if_pos rfl]at r;have A:Hid (ParIn n b s f F (runT s i last).thread (q+(runT s i last).count) (i+(runT s i last).len+1) u):=by
         have R:i+(runT s i last).len<s.size:=by
          unfold hitB at hit;have:=jt (show (byt s)[i+(runT s i last).len]?=some 32 by simpa using hit);rwa [iL]at this
         exact⟨G.out,r,by omega,aq,ap,by omega,by omega,J,by omega,by have e:=B.out.eq;rw [nt hok hit,L.out,I.out]at e;exact e⟩
        clear D r;go_wp2_with fail
        go_roundw
        case rel=>exact⟨F,f,(runT s i last).thread,(q+(runT s i last).count),true,i+(runT s i last).len+1,rfl,rfl,rfl,ij (Or.inl ⟨rfl,A.out⟩),H⟩
        case measure=>
         have X:=jI A.out.sc;have E:=Q.out;have e3:=A.out.le;simp only [mPar,X,E];omega
       | false=>
        rw [hit,if_neg (by simp)]at r;have A:Hid (ParEnd n b s F (q+(runT s i last).count) (i+(runT s i last).len) u):=
         ⟨G.out,r,by omega,by omega,by omega,J,by have e:=B.out.eq;rw [oN hok hit,L.out,I.out]at e;exact e⟩
        clear D r;go_wp2_with fail
        go_roundw
        case rel=>exact⟨F,f,(runT s i last).thread,(q+(runT s i last).count),false,i+(runT s i last).len,rfl,rfl,rfl,ij (Or.inr ⟨rfl,A.out⟩),H⟩
        case measure=>
         have E:=Q.out;simp only [mPar,E];omega
   ·have B:=ij C;have c1:=C.sc.c1;have am:=C.le;clear C HI;by_cases R:i<s.size
    ·have U:Hid (parseP (byt s)=⟨[],i,false⟩):=by unfold Hid;rw [<-B.out.eq,endP,if_pos R]
     have q1:(i:Int)<s.size:=by omega
     go_wp2_with fail
     go_quiet (fail)
     go_wp2_with fail
     refine bodyPost_ret (v:= .tuple #[.slice none 0 0,.int .i64 (i:Int),.bool false]) (by simp [results,Tryz.results72,go_sem]) rfl ?_;exact T.out _ (iO _ B.out.grown) none 0 0 ⟨[],i,false⟩ U.out.symm (V.out _)
    ·have q1:(s.size:Int)<=i:=by omega
     by_cases h5:q=501
     ·have U:Hid (parseP (byt s)=⟨[],0,false⟩):=by unfold Hid;rw [<-B.out.eq,endP,if_neg R,if_pos h5]
      have h6:(q==501)=true:=by simpa using h5
      clear h5;go_wp2_with fail
      refine bodyPost_ret (v:= .tuple #[.slice none 0 0,.int .i64 0,.bool false]) (by simp [results,Tryz.results72,go_sem]) rfl ?_;exact T.out _ B.out.grown none 0 0 ⟨[],0,false⟩ U.out.symm (V.out _)
     ·have U:Hid (parseP (byt s)=⟨j,0,true⟩):=by unfold Hid;rw [<-B.out.eq,endP,if_neg R,if_neg h5]
      go_wp2_with fail
      refine bodyPost_ret (v:= .tuple #[.slice x1 x2 x3,.int .i64 0,.bool true]) (by simp [results,Tryz.results72,go_sem]) rfl ?_;exact T.out _ B.out.grown x1 x2 x3 ⟨j,0,true⟩ U.out.symm HO.out
end
end Go.Proofs.YtklenjmfalljgabGreatDoor
