/- The texts Par Prn Wrt Rga Rgb Rgc Rda Rdb Rdc Rdd. -/
import Derived.Test.YtklenjmfalljgabGreatDoorMI
import Derived.Laws.BitsAllLaws
import Derived.Laws.Bits64
import Derived.Laws.BytesArg
import Derived.Lib.ConvBytes
import Derived.Defers
import Derived.Recover
namespace Go.Proofs.YtklenjmfalljgabGreatDoor
set_option maxRecDepth 100000
set_option maxHeartbeats 8000000
section
open Go.RowKit
attribute [local go_sem] Go.World.cell?_alloc_some
theorem CD(l:List Int)(t:Int)(k:Nat):iL (l++List.replicate (k+1) t)=iL (l++List.replicate k t)++[.int .i64 t]:=by
 rw [List.replicate_succ',<-List.append_assoc,Bh]
theorem vU(b w:World)(r:Option Nat)(sv:Value)(l:List Int)(t:Int)(c:Nat)(h:w.ownsRow b.heap.size 3 1 sv l.length (iL l))(F:b.grownBy w r)(hc:c<=501)(hl:l.length<=501):
  Calls Tryz.prog 102 #[sv,.agg #[.int .i64 t,.int .i64 c]] w fun e w'=>∃ sv',e= .returned sv'/\w'.ownsRow b.heap.size 3 1 sv' (l++List.replicate c t).length (iL (l++List.replicate c t))/\b.grownBy w' r/\w.grownBy w' sv.ownBlock/\((∃ x y z,sv'= .slice x y z)):=by
 obtain⟨T,X,W,Q,Y⟩:=info_parts ko;obtain⟨v,p,s,rfl⟩:=iw h;have M:=ij h;have R:=ij F;have hW0:=F.size;clear h F;go_enter Tryz.func102,Tryz.ntmps102
 go_wp2_with fail
 go_loopw [0,7] (fun lv i w'=>∃ k:Nat,k<=c/\i= .int .i64 k/\Hid (w'.ownsRow b.heap.size 3 1 lv (l.length+k) (iL (l++List.replicate k t))/\b.grownBy w' r/\w'.heap[w.heap.size]?=some (.cells #[.int .i64 t,.int .i64 c] 187 (0,0))/\lv.ownBlock≠some w.heap.size/\w.grownBy w' (Value.slice v p s).ownBlock/\∀ k,lv.ownBlock=some k->(Value.slice v p s).ownBlock=some k\/w.heap.size<=k)) (fun _ i _=>c - (intOf i).toNat)
 case atStart=>
  refine⟨0,Nat.zero_le _,rfl,?_,iq R.out,heap_alloc_new _ _,?_,iq (ir _ _),fun k e=>Or.inl e⟩
  ·simpa using iJ (o:= .cells #[.int .i64 t,.int .i64 c] 187) M.out
  ·intro e;rcases M.out.2 with ⟨e1,_⟩ | ⟨g,cap,cur,hv,_,hh,_⟩
   ·rw [e1]at e;cases e
   ·rw [hv]at e;simp [Value.ownBlock]at e;have:=(Array.getElem?_eq_some_iff.1 hh).1;omega
 case round=>
  obtain⟨k,hk,rfl,L⟩:=hrel;obtain⟨a,U⟩:∃ a,a=wr:=⟨_,rfl⟩;subst U;obtain⟨f,n,j,B,A,D⟩:=L.out;have d0:a.cell? ⟨w.heap.size,0,none⟩=some (.int .i64 t):=by simp [World.cell?,j]
  have d1:a.cell? ⟨w.heap.size,1,none⟩=some (.int .i64 c):=by simp [World.cell?,j]
  have Z:w.heap.size<a.heap.size:=(Array.getElem?_eq_some_iff.1 j).1;by_cases hkl:k<c
  ·have q3:(k:Int)<c:=by omega
   have V:l.length+k+1<=maxLen:=by unfold maxLen;omega
   have N:=iA f;have H:=ij f;have u:=ij n;have O:=ij j;have J:=ij B;have G:=ij A;have K:=ij D;have hn:a.heap.size≠w.heap.size:=by omega
   clear f n j B A D;go_wp2_with (at_builtin;refine wpList_append_lies _ rfl _ _ _ rfl b.heap.size 3 T _ 1 8 Tryz.underlying39 X W Q Y rfl (by omega) u0 (l.length+k) (iL (l++List.replicate k t)) rfl (iJ H.out) ⟨a.heap.size,0,none⟩ 1 1 [.int .i64 t] rfl rfl (World.news_of_block (cs:= #[.int .i64 t]) (t:=3) (fr:=(0,0)) (heap_alloc_new a _)) (by simp [Value.oneCell']) (by omega) V (by omega) (by simp;have:=u.out.size;omega) (a.heap.size+1) (by simp) ?_;intro g6 C w6 I d E hlt6)
   have S:Hid (w6.ownsRow b.heap.size 3 1 (.slice (some ⟨g6,0,none⟩) (l.length+k+1) C) (l.length+(k+1)) (iL (l++List.replicate (k+1) t))/\b.grownBy w6 r/\w6.heap[w.heap.size]?=some (.cells #[.int .i64 t,.int .i64 c] 187 (0,0))/\(Value.slice (some ⟨g6,0,none⟩) (l.length+k+1) C).ownBlock≠some w.heap.size/\w.grownBy w6 (Value.slice v p s).ownBlock/\∀ q,(Value.slice (some ⟨g6,0,none⟩) (l.length+k+1) C).ownBlock=some q->(Value.slice v p s).ownBlock=some q\/w.heap.size<=q):=by
    refine⟨?_,jG (iq u.out) d (fun q e=>N q e),?_,?_,?_,?_⟩
    ·rw [CD];exact I
    ·rw [d.block _ (by simp;omega) (fun e=>J.out e.symm),Below.heap_alloc _ _ _ Z];exact O.out
    ·simp only [Value.ownBlock];rcases E with e | e
     ·rw [<-e];exact J.out
     ·rw [e];simp;omega
    ·have m:=iq (o:= .cells #[.int .i64 t] 3) G.out;refine⟨d.os.trans m.os,d.tape.trans m.tape,d.output.trans m.output,Nat.le_trans m.size d.size,fun q hq hr=>?_⟩;rw [d.block q (Nat.lt_of_lt_of_le hq m.size) (fun e=>by
      rcases K.out q e.symm with e2 | e2
      ·exact hr e2.symm
      ·omega)]
     exact m.block q hq hr
    ·intro q e;rcases E with e2 | e2
     ·exact K.out q (by rw [e2];exact e)
     ·right
      simp only [Value.ownBlock,Option.some.injEq]at e;omega
   clear I d E;go_wp2
   go_roundw
   case rel=>exact⟨k+1,by omega,by go_num,S⟩
   case measure=>simp [intOf];omega
  ·have P:k=c:=by omega
   have q2:(c:Int)<=(k:Int):=by omega
   subst P;have H:=ij f;have u:=ij n;obtain⟨m1,m2,m3,rfl⟩:=iw f;have G:=ij A;clear f n j B A D L;go_wp2
   go_ret;exact⟨_,rfl,by simpa using H.out,u.out,G.out,_,_,_,rfl⟩
def Ao(s:ByteArray)(sch:List Int)(total:Int)(a:Nat):AJ:=if a<s.size then ⟨[],a,false⟩ else if total=501 then ⟨[],0,false⟩ else ⟨sch,0,true⟩
theorem BF{f:Nat}{c:List Int}{last b:Int}{a:Nat}{s:ByteArray}(h:(iY s a last).ok=false):mw (f+1) c last b a ((byt s).drop a)=⟨[],a+(iY s a last).len,false⟩:=by
 rw [mw];unfold iY at*;rw [if_neg (by rw [h];simp)]
theorem ru{f:Nat}{d:List Int}{last b:Int}{a:Nat}{s:ByteArray}(h:(iY s a last).ok=true)(c:mZ s (a+(iY s a last).len) 32=true):
  mw (f+1) d last b a ((byt s).drop a)=mw f (mq d (min (b+(iY s a last).count) 501) (iY s a last).count (iY s a last).thread) (iY s a last).thread (min (b+(iY s a last).count) 501) (a+(iY s a last).len+1) ((byt s).drop (a+(iY s a last).len+1)):=by
 have i:(byt s)[a+(iY s a last).len]?=some 32:=by unfold mZ at c;simpa using c
 have e:=nt i;rw [mw];unfold iY at*;rw [if_pos h,List.drop_drop,e];simp only [if_true]
theorem te{f:Nat}{i:List Int}{last e:Int}{a:Nat}{s:ByteArray}(h:(iY s a last).ok=true)(d:mZ s (a+(iY s a last).len) 32=false):
  mw (f+1) i last e a ((byt s).drop a)=Ao s (mq i (min (e+(iY s a last).count) 501) (iY s a last).count (iY s a last).thread) (min (e+(iY s a last).count) 501) (a+(iY s a last).len):=by
 unfold mZ at d;rw [mw];unfold iY Ao at*;rw [if_pos h,List.drop_drop];cases h3:(byt s)[a+(jH last ((byt s).drop a)).len]? with
 | none=>
  have b:=List.getElem?_eq_none_iff.1 h3;rw [List.drop_eq_nil_of_le b];rw [iS]at b;rw [if_neg (show ¬a+(jH last ((byt s).drop a)).len<s.size by omega)]
 | some c=>
  have j:=nt h3;have b:=kM h3;rw [iS]at b;rw [j,if_pos b];rw [h3]at d;have:c≠32:=by simpa using d
  simp only [if_neg this]
structure wX(W0:World)(b:Nat)(s:ByteArray)(f:Nat)(sch:List Int)(last total:Int)(a:Nat)(w':World):Prop where
 grown:W0.grownBy w' (some b)
 sc:ScAt w' b s a
 le:a<=s.size
 lo: -1<=last
 hi:last<=63
 t0:0<=total
 t1:total<=501
 sl:(sch.length:Int)<=total
 fu:s.size - a<f
 eq:mw f sch last total a ((byt s).drop a)=jM (byt s)
structure vD(W0:World)(b:Nat)(s:ByteArray)(sch:List Int)(total:Int)(a:Nat)(w':World):Prop where
 grown:W0.grownBy w' (some b)
 sc:ScAt w' b s a
 le:a<=s.size
 t0:0<=total
 t1:total<=501
 sl:(sch.length:Int)<=total
 eq:Ao s sch total a=jM (byt s)
def xN(m:Value)(w:World)(b n:Nat):Nat:=match m with
 | .bool true=>n+1 - vd w b
 | _=>0
def wM(s:ByteArray)(w:World)(e:Ending)(w':World):Prop:=
 ∃ x y z,e= .returned (.tuple #[.slice x y z,.int .i64 (jM (byt s)).at_,.bool (jM (byt s)).ok])/\w'.ownsRow (w.heap.size+1) 3 1 (.slice x y z) (jM (byt s)).out.length (iL (jM (byt s)).out)/\w.grownBy w' none
theorem BE(s:ByteArray)(a:Nat)(last:Int)(ha:a<=s.size):a+(iY s a last).len<=s.size:=by
 have:=(AD last ((byt s).drop a)).len;rw [List.length_drop,iS]at this;unfold iY;omega
theorem Cl(s:ByteArray)(w:World)(hs:s.size<=9223372036854775806):
  Calls Tryz.prog 72 #[.string s] w (wM s w):=by
 obtain⟨b,L⟩:∃ b,b=w.heap.size:=⟨_,rfl⟩;obtain⟨n,N⟩:∃ n,n=w.alloc (.cells #[.string s,.int .i64 0] 184):=⟨_,rfl⟩;have ax:ScAt n b s 0:=by unfold ScAt;rw [N,L];exact heap_alloc_new w _
 have aJ:n.heap.size=b+1:=by rw [N,L];simp
 have O:w.grownBy n none:=by rw [N];exact iq (ir _ _)
 have aH:Hid (∀ w',n.grownBy w' (some b)->w.grownBy w' none):=by
  intro w' h;refine⟨h.os.trans O.os,h.tape.trans O.tape,h.output.trans O.output,Nat.le_trans O.size h.size,fun k hk _=>?_⟩;rw [h.block k (by omega) (by simp;omega)];exact O.block k hk (by simp)
 have aA:=ij ax;clear ax;have fin:∀ u,n.grownBy u (some b)->∀ (x:Option Addr) (y z:Nat) (p:AJ),p=jM (byt s)->u.ownsRow (b+1) 3 1 (.slice x y z) p.out.length (iL p.out)->wM s w (.returned (.tuple #[.slice x y z,.int .i64 p.at_,.bool p.ok])) u:=by
  intro u hg x y z p B ho;subst B;exact⟨x,y,z,rfl,by rw [<-L];exact ho,aH.out _ hg⟩
 have Z:=ij fin;clear fin aH;have ay:∀ u:World,u.ownsRow (b+1) 3 1 (.slice none 0 0) ([]:List Int).length (iL []):=fun u=>⟨rfl,Or.inl ⟨rfl,rfl⟩⟩
 have Y:=ij ay;clear ay;go_enter Tryz.func72,Tryz.ntmps72
 by_cases M:s.size=0
 ·obtain rfl:s=⟨#[]⟩:=by
   obtain⟨d⟩:=s;simp [ByteArray.size]at M;rw [M]
  go_wp2_with fail
  rw [<-N,<-L];clear N L O;go_loopw [5,8,9] (fun sv t m w'=>sv= .slice none 0 0/\t= .int .i64 0/\m= .bool false/\w'=n) (fun _ _ _ _=>0)
  case atStart=>exact⟨rfl,rfl,rfl,rfl⟩
  case round=>
   obtain⟨rfl,rfl,rfl,rfl⟩:=hrel;have c1:wr.cell? ⟨b,1,none⟩=some (.int .i64 0):=aA.out.c1;have ab:(⟨#[]⟩:ByteArray).size=0:=rfl;go_wp2_with fail
   refine bodyPost_ret (v:= .tuple #[.slice none 0 0,.int .i64 0,.bool true]) (by simp [results,Tryz.results72,go_sem]) rfl ?_;exact Z.out _ (ir _ _) none 0 0 ⟨[],0,true⟩ rfl (Y.out _)
 ·have aN:s≠⟨#[]⟩:=by intro e;rw [e]at M;simp [ByteArray.size]at M
  go_wp2_with fail
  rw [<-N,<-L];have H0:Hid (wX n b s (s.size+1) [] (-1) 0 0 n):=by
   refine⟨ir _ _,aA.out,by omega,by omega,by omega,by omega,by omega,by simp,by omega,?_⟩;unfold jM;rw [if_neg (by intro e;have:=congrArg List.length e;rw [iS]at this;exact M this),iS];rfl
  have hbW:b<n.heap.size:=by omega
  have aC:s.toList.isEmpty=false:=by
   rw [ByteArray.toList_eq];cases hd:s.data.toList with
   | nil=>exact absurd (by have:=congrArg List.length hd;simpa using this) M
   | cons a b=>rfl
  rw [aC,Bool.not_false];clear aN M N O aC;clear L;go_loopw [5,7,8,9] (fun sv l t m w'=>∃ (j:List Int) (f:Nat) (last q:Int) (mb:Bool) (i:Nat),l= .int .i64 last/\t= .int .i64 q/\m= .bool mb/\Hid ((mb=true/\wX n b s f j last q i w')\/(mb=false/\vD n b s j q i w'))/\Hid (w'.ownsRow (b+1) 3 1 sv j.length (iL j))) (fun _ _ _ m w'=>xN m w' b s.size)
  case atStart=>exact⟨[],s.size+1, -1,0,true,0,rfl,rfl,rfl,ij (Or.inl ⟨rfl,H0.out⟩),ij (Y.out _)⟩
  case round=>
   obtain⟨j,f,last,q,mb,i,rfl,rfl,rfl,HI,HO⟩:=hrel;obtain⟨x1,x2,x3,rfl⟩:=iw HO.out;rcases HI.out with ⟨rfl,B⟩ | ⟨rfl,B⟩
   ·have C:=ij B;have Q:Hid (vd wr b=i):=lL B.sc;obtain⟨f,rfl⟩:∃ f',f=f'+1:=⟨f - 1,by have:=B.fu;omega⟩;have ap:=B.le;have ht0:=B.t0;have ht1:=B.t1;have hsl:=B.sl;have hfu:=B.fu;clear B HI;go_wp2_with fail
    refine(Fv s b i last _ C.out.sc ap hs).mono ?_;rintro e S ⟨ao,rfl,ab,aZ,hc1,ak,aq⟩;have ah:=BE s i last ap;have aF:Hid (n.grownBy S (some b)):=il C.out.grown ao;have aO:Hid (S.ownsRow (b+1) 3 1 (.slice x1 x2 x3) j.length (iL j)):=iD HO.out ao (fun k e=>by simp at e;omega);have aw:=ij ab;have hsz1:=ab.lt;clear ao ab HO;cases hok:(iY s i last).ok with
    | false=>
     have HB:Hid (jM (byt s)=⟨[],i+(iY s i last).len,false⟩):=by
      unfold Hid;rw [<-C.out.eq];exact BF hok
     have c1:=aw.out.c1;go_wp2_with fail
     go_quiet (fail)
     go_wp2_with fail
     refine bodyPost_ret (v:= .tuple #[.slice none 0 0,.int .i64 ((i+(iY s i last).len:Nat):Int),.bool false]) (by simp [results,Tryz.results72,go_sem]) rfl ?_;exact Z.out _ (iX _ (iq aF.out)) none 0 0 ⟨[],i+(iY s i last).len,false⟩ HB.out.symm (Y.out _)
    | true=>
     have aG:∀ o,n.grownBy (S.alloc o) (some b):=fun o=>iq aF.out
     have aL:∀ o,(S.alloc o).ownsRow (b+1) 3 1 (.slice x1 x2 x3) j.length (iL j):=fun o=>iJ aO.out
     have az:∀ o,ScAt (S.alloc o) b s (i+(iY s i last).len):=fun o=>aw.out.grown (iq (ir _ _))
     obtain⟨I,V⟩:∃ I,I=S.alloc (.cells #[.int .i64 (iY s i last).thread,.int .i64 (iY s i last).count] 187):=⟨_,rfl⟩;have ae:Hid (I.ownsRow (b+1) 3 1 (.slice x1 x2 x3) j.length (iL j)):=by rw [V];exact aL _
     have X:Hid (ScAt I b s (i+(iY s i last).len)):=by rw [V];exact az _
     have an:Hid (n.grownBy I (some b)):=by rw [V];exact aG _
     clear aG aL az;have al:=ij V;clear V;by_cases hm:501<q+(iY s i last).count
     ·have P:Hid (min (q+(iY s i last).count) 501=501):=by unfold Hid;omega
      have G:Hid (mq j 501 (iY s i last).count (iY s i last).thread=j):=by
       unfold Hid mq;rw [if_neg (by omega)]
      have K:(j.length:Int)<=501:=by omega
      have aM:b<I.heap.size:=X.out.lt;have T:i+(iY s i last).len<=s.size:=ah;go_wp2_with fail
      rw [<-al.out];refine(vq s b _ 32 _ X.out T hs).mono ?_;rintro e u ⟨D,rfl,r⟩;have H:Hid (u.ownsRow (b+1) 3 1 (.slice x1 x2 x3) j.length (iL j)):=iD ae.out D (fun k e=>by simp at e;omega);have J:Hid (n.grownBy u (some b)):=il an.out D;unfold xH at r;cases hit:mZ s (i+(iY s i last).len) 32 with
      | true=>
       rw [hit,if_pos rfl]at r;have A:Hid (wX n b s f j (iY s i last).thread 501 (i+(iY s i last).len+1) u):=by
        have R:i+(iY s i last).len<s.size:=by
         unfold mZ at hit;have:=kM (show (byt s)[i+(iY s i last).len]?=some 32 by simpa using hit);rwa [iS]at this
        exact⟨J.out,r,by omega,ak,aq,by omega,by omega,K,by omega,by have e:=C.out.eq;rw [ru hok hit,P.out,G.out]at e;exact e⟩
       clear D r;go_wp2_with fail
       go_roundw
       case rel=>exact⟨j,f,(iY s i last).thread,501,true,i+(iY s i last).len+1,rfl,rfl,rfl,ij (Or.inl ⟨rfl,A.out⟩),H⟩
       case measure=>
        have W:=lL A.out.sc;have E:=Q.out;have e3:=A.out.le;simp only [xN,W,E];omega
      | false=>
       rw [hit,if_neg (by simp)]at r;have A:Hid (vD n b s j 501 (i+(iY s i last).len) u):=
        ⟨J.out,r,by omega,by omega,by omega,K,by have e:=C.out.eq;rw [te hok hit,P.out,G.out]at e;exact e⟩
       clear D r;go_wp2_with fail
       go_roundw
       case rel=>exact⟨j,f,(iY s i last).thread,501,false,i+(iY s i last).len,rfl,rfl,rfl,ij (Or.inr ⟨rfl,A.out⟩),H⟩
       case measure=>
        have E:=Q.out;simp only [xN,E];omega
     ·have P:Hid (min (q+(iY s i last).count) 501=(q+(iY s i last).count)):=by unfold Hid;omega
      by_cases aj:q+(iY s i last).count=501
      ·have G:Hid (mq j (q+(iY s i last).count) (iY s i last).count (iY s i last).thread=j):=by
        unfold Hid mq;rw [if_neg (by omega)]
       have K:(j.length:Int)<=(q+(iY s i last).count):=by omega
       have aR:¬(q+(iY s i last).count<501):=by omega
       have HM2:=ij aj;clear aj;have aM:b<I.heap.size:=X.out.lt;have T:i+(iY s i last).len<=s.size:=ah;go_wp2_with fail
       rw [<-al.out];refine(vq s b _ 32 _ X.out T hs).mono ?_;rintro e u ⟨D,rfl,r⟩;have H:Hid (u.ownsRow (b+1) 3 1 (.slice x1 x2 x3) j.length (iL j)):=iD ae.out D (fun k e=>by simp at e;omega);have J:Hid (n.grownBy u (some b)):=il an.out D;unfold xH at r;cases hit:mZ s (i+(iY s i last).len) 32 with
       | true=>
        rw [hit,if_pos rfl]at r;have A:Hid (wX n b s f j (iY s i last).thread (q+(iY s i last).count) (i+(iY s i last).len+1) u):=by
         have R:i+(iY s i last).len<s.size:=by
          unfold mZ at hit;have:=kM (show (byt s)[i+(iY s i last).len]?=some 32 by simpa using hit);rwa [iS]at this
         exact⟨J.out,r,by omega,ak,aq,by omega,by omega,K,by omega,by have e:=C.out.eq;rw [ru hok hit,P.out,G.out]at e;exact e⟩
        clear D r;go_wp2_with fail
        go_roundw
        case rel=>exact⟨j,f,(iY s i last).thread,(q+(iY s i last).count),true,i+(iY s i last).len+1,rfl,rfl,rfl,ij (Or.inl ⟨rfl,A.out⟩),H⟩
        case measure=>
         have W:=lL A.out.sc;have E:=Q.out;have e3:=A.out.le;simp only [xN,W,E];omega
       | false=>
        rw [hit,if_neg (by simp)]at r;have A:Hid (vD n b s j (q+(iY s i last).count) (i+(iY s i last).len) u):=
         ⟨J.out,r,by omega,by omega,by omega,K,by have e:=C.out.eq;rw [te hok hit,P.out,G.out]at e;exact e⟩
        clear D r;go_wp2_with fail
        go_roundw
        case rel=>exact⟨j,f,(iY s i last).thread,(q+(iY s i last).count),false,i+(iY s i last).len,rfl,rfl,rfl,ij (Or.inr ⟨rfl,A.out⟩),H⟩
        case measure=>
         have E:=Q.out;simp only [xN,E];omega
      ·have aR:q+(iY s i last).count<501:=by omega
       obtain⟨c,hc⟩:=Int.eq_ofNat_of_zero_le aZ;obtain⟨F,U⟩:∃ F,F=j++List.replicate c (iY s i last).thread:=⟨_,rfl⟩;have G:Hid (mq j (q+(iY s i last).count) (iY s i last).count (iY s i last).thread=F):=by
        unfold Hid mq;rw [if_pos (by omega),U,hc];rfl
       have K:(F.length:Int)<=(q+(iY s i last).count):=by rw [U];simp;omega
       have am:=vU n I (some b) (.slice x1 x2 x3) j (iY s i last).thread c (by rw [aJ];exact ae.out) an.out (by omega) (by omega);rw [aJ,<-U,<-hc]at am;have av:=ij am;have HC:=ij hc;have HS3':=ij U;clear am hc U;clear aj;go_wp2_with fail
       rw [<-al.out];refine av.out.mono ?_;rintro e w5 ⟨sv5,rfl,aD,aB,aK,y1,y2,y3,rfl⟩;have aI:Hid (ScAt w5 b s (i+(iY s i last).len)):=by
        have h3:=X.out;have aY:=h3.lt;have aT:=iA ae.out;unfold Hid ScAt at*;rw [aK.block b aY (fun e=>by have:=aT b e.symm;omega)];exact h3
       have aQ:=ij aD;have aV:=ij aB;clear aD aB aK av;have aM:b<w5.heap.size:=aI.out.lt;have T:i+(iY s i last).len<=s.size:=ah;go_wp2_with fail
       refine(vq s b _ 32 _ aI.out T hs).mono ?_;rintro e u ⟨D,rfl,r⟩;have H:Hid (u.ownsRow (b+1) 3 1 (.slice y1 y2 y3) F.length (iL F)):=iD aQ.out D (fun k e=>by simp at e;omega);have J:Hid (n.grownBy u (some b)):=il aV.out D;unfold xH at r;cases hit:mZ s (i+(iY s i last).len) 32 with
       | true=>
        rw [hit,if_pos rfl]at r;have A:Hid (wX n b s f F (iY s i last).thread (q+(iY s i last).count) (i+(iY s i last).len+1) u):=by
         have R:i+(iY s i last).len<s.size:=by
          unfold mZ at hit;have:=kM (show (byt s)[i+(iY s i last).len]?=some 32 by simpa using hit);rwa [iS]at this
         exact⟨J.out,r,by omega,ak,aq,by omega,by omega,K,by omega,by have e:=C.out.eq;rw [ru hok hit,P.out,G.out]at e;exact e⟩
        clear D r;go_wp2_with fail
        go_roundw
        case rel=>exact⟨F,f,(iY s i last).thread,(q+(iY s i last).count),true,i+(iY s i last).len+1,rfl,rfl,rfl,ij (Or.inl ⟨rfl,A.out⟩),H⟩
        case measure=>
         have W:=lL A.out.sc;have E:=Q.out;have e3:=A.out.le;simp only [xN,W,E];omega
       | false=>
        rw [hit,if_neg (by simp)]at r;have A:Hid (vD n b s F (q+(iY s i last).count) (i+(iY s i last).len) u):=
         ⟨J.out,r,by omega,by omega,by omega,K,by have e:=C.out.eq;rw [te hok hit,P.out,G.out]at e;exact e⟩
        clear D r;go_wp2_with fail
        go_roundw
        case rel=>exact⟨F,f,(iY s i last).thread,(q+(iY s i last).count),false,i+(iY s i last).len,rfl,rfl,rfl,ij (Or.inr ⟨rfl,A.out⟩),H⟩
        case measure=>
         have E:=Q.out;simp only [xN,E];omega
   ·have C:=ij B;have c1:=B.sc.c1;have ap:=B.le;clear B HI;by_cases R:i<s.size
    ·have HE:Hid (jM (byt s)=⟨[],i,false⟩):=by unfold Hid;rw [<-C.out.eq,Ao,if_pos R]
     have q1:(i:Int)<s.size:=by omega
     go_wp2_with fail
     go_quiet (fail)
     go_wp2_with fail
     refine bodyPost_ret (v:= .tuple #[.slice none 0 0,.int .i64 (i:Int),.bool false]) (by simp [results,Tryz.results72,go_sem]) rfl ?_;exact Z.out _ (iX _ C.out.grown) none 0 0 ⟨[],i,false⟩ HE.out.symm (Y.out _)
    ·have q1:(s.size:Int)<=i:=by omega
     by_cases h5:q=501
     ·have HE:Hid (jM (byt s)=⟨[],0,false⟩):=by unfold Hid;rw [<-C.out.eq,Ao,if_neg R,if_pos h5]
      have h6:(q==501)=true:=by simpa using h5
      clear h5;go_wp2_with fail
      refine bodyPost_ret (v:= .tuple #[.slice none 0 0,.int .i64 0,.bool false]) (by simp [results,Tryz.results72,go_sem]) rfl ?_;exact Z.out _ C.out.grown none 0 0 ⟨[],0,false⟩ HE.out.symm (Y.out _)
     ·have HE:Hid (jM (byt s)=⟨j,0,true⟩):=by unfold Hid;rw [<-C.out.eq,Ao,if_neg R,if_neg h5]
      go_wp2_with fail
      refine bodyPost_ret (v:= .tuple #[.slice x1 x2 x3,.int .i64 0,.bool true]) (by simp [results,Tryz.results72,go_sem]) rfl ?_;exact Z.out _ C.out.grown x1 x2 x3 ⟨j,0,true⟩ HE.out.symm HO.out
def okN(t:Int):Bool:=decide (0<=t) && decide (t<=63)
theorem zK(l:List Int)(v:Value)(w:World)(q:IntsAt w.heap.size w v l):
  Calls Tryz.prog 76 #[v] w fun e w'=>e= .returned (.bool (jc l))/\w.grownBy w' none:=by
 obtain⟨ao,cap,rfl,hcap,hc⟩:=q;by_cases m:l.length<=500
 ·have y:(l.length:Int)<=500:=by omega
  have b:Hid (jc l=l.all okN):=by unfold Hid jc;rw [decide_eq_true m];rfl
  have s:=ij hc;clear hc;go_enter Tryz.func76,Tryz.ntmps76
  go_wp2
  go_loopw [10] (fun i w'=>∃ k:Nat,k<=l.length/\i= .int .i64 k/\w'=w/\Hid ((l.take k).all okN=true)) (fun i _=>l.length - (intOf i).toNat)
  case atStart=>exact⟨0,Nat.zero_le _,rfl,rfl,rfl⟩
  case round=>
   obtain⟨k,hk,rfl,rfl,d⟩:=hrel;by_cases f:k<l.length
   ·obtain⟨g,o,rfl,hg,c0⟩:=s.out k f;have c:=ij (kW l okN k f);have hk0:(0:Int)<=(k:Int):=by omega
    have hk1:(k:Int)<l.length:=by omega
    have p:Hid (okN l[k]=false->jc l=false):=by
     intro h;rw [b.out];have:(l.take (k+1)).all okN=false:=by rw [c.out,h];simp
     rw [<-List.take_append_drop (k+1) l,List.all_append,this];rfl
    generalize l[k]=x at*;by_cases n:0<=x
    ·by_cases j:x<=63
     ·have r:Hid ((l.take (k+1)).all okN=true):=by unfold Hid;rw [c.out,d.out];simp [okN,n,j]
      have t:¬x<0:=by omega
      have u:¬63<x:=by omega
      go_wp2
      go_roundw
      case rel=>exact⟨k+1,by omega,by go_num,trivial,r⟩
      case measure=>simp [intOf];omega
     ·have a:=ij (p.out (by simp [okN,j]));have u:63<x:=by omega
      go_wp2
      go_ret;exact⟨by rw [a.out];rfl,ir _ _⟩
    ·have a:=ij (p.out (by simp [okN,n]));have t:x<0:=by omega
     go_wp2
     go_ret;exact⟨by rw [a.out];rfl,ir _ _⟩
   ·have a:Hid (jc l=true):=by
     unfold Hid;rw [b.out];have:=d.out;rw [List.take_of_length_le (by omega)]at this;exact this
    go_wp2
    go_ret;exact⟨by rw [a.out];rfl,ir _ _⟩
 ·have y:500<(l.length:Int):=by omega
  have b:Hid (jc l=false):=by unfold Hid jc;rw [decide_eq_false m];rfl
  clear hc;go_enter Tryz.func76,Tryz.ntmps76
  go_wp2
  go_ret;exact⟨by rw [b.out];rfl,ir _ _⟩
theorem AG(q:List (Int × Int)):(iR q).length=q.length*2:=by
 induction q with
 | nil=>rfl
 | cons x q ih=>simp [iR]at ih ⊢;omega
theorem A0(q:List (Int × Int))(e:q≠[])(x:Int × Int)(a:q.getLast?=some x):(iR q).set ((q.length - 1)*2+1) (.int .i64 (x.2+1))=iR (nS q):=by
 induction q with
 | nil=>exact absurd rfl e
 | cons y q ih=>
  cases q with
  | nil=>
   simp at a;subst a
   simp [iR,nS]
  | cons z q=>
   rw [List.getLast?_cons_cons]at a;have:=ih (by simp) a;have c:iR (y::z::q)= .int .i64 y.1:: .int .i64 y.2::iR (z::q):=rfl;have b:iR (nS (y::z::q))= .int .i64 y.1:: .int .i64 y.2::iR (nS (z::q)):=rfl;rw [c,b,<-this];have d:((y::z::q).length - 1)*2+1=(((z::q).length - 1)*2+1)+1+1:=by simp;omega
   rw [d,List.set_cons_succ,List.set_cons_succ]
theorem Bn(q:List (Int × Int)):(nS q).length=q.length:=by
 induction q with
 | nil=>rfl
 | cons y q ih=>
  cases q with
  | nil=>rfl
  | cons z q=>simp [nS]at ih ⊢;exact ih
theorem BM(q:List (Int × Int))(x:Int × Int)(a:q.getLast?=some x):(iR q)[(q.length - 1)*2+1]?=some (.int .i64 x.2):=by
 induction q with
 | nil=>simp at a
 | cons y q ih=>
  cases q with
  | nil=>simp at a;subst a;simp [iR]
  | cons z q=>
   rw [List.getLast?_cons_cons]at a;have:=ih a;have b:iR (y::z::q)= .int .i64 y.1:: .int .i64 y.2::iR (z::q):=rfl;have c:((y::z::q).length - 1)*2+1=(((z::q).length - 1)*2+1)+1+1:=by simp;omega
   rw [b,c];exact this
theorem CK:((Tryz.prog.info? 187).map fun i=>(i.zero,i.size,i.bytes))=some (some (.agg #[.int .i64 0,.int .i64 0]),2,16):=by kernel_rfl
theorem F0(l:List Int)(v:Value)(w:World)(hI:IntsAt w.heap.size w v l)(h5:l.length<=500):
  Calls Tryz.prog 107 #[v] w fun e w'=>∃ x y z,e= .returned (.slice x y z)/\w'.ownsRow w.heap.size 187 2 (.slice x y z) (grp l).length (iR (grp l))/\w.grownBy w' none:=by
 obtain⟨i0,ad,ac,ah,al⟩:=info_parts CK;obtain⟨ao,cap,rfl,hcap,hc⟩:=hI;have HC:=ij hc;clear hc;go_enter Tryz.func107,Tryz.ntmps107
 go_wp2_with fail
 go_loopw [3,8] (fun lv i w'=>∃ k:Nat,k<=l.length/\i= .int .i64 k/\Hid (w'.ownsRow w.heap.size 187 2 lv (grp (l.take k)).length (iR (grp (l.take k)))/\w.grownBy w' none)) (fun _ i _=>l.length - (intOf i).toNat)
 case atStart=>exact⟨0,Nat.zero_le _,rfl,⟨rfl,Or.inl ⟨rfl,rfl⟩⟩,ir _ _⟩
 case round=>
  obtain⟨k,hk,rfl,d⟩:=hrel;obtain⟨b,aw⟩:∃ b,b=wr:=⟨_,rfl⟩;subst aw;obtain⟨x1,x2,x3,rfl⟩:=iw d.out.1;by_cases ak:k<l.length
  ·obtain⟨g,o,rfl,hg,c0⟩:=HC.out k ak;have d0:=ip d.out.2 _ _ c0;have hk0:(0:Int)<=(k:Int):=by omega
   have hk1:(k:Int)<l.length:=by omega
   have V:Hid (l.take (k+1)=l.take k++[l[k]]):=List.take_succ_eq_append_getElem ak;have J:=pn (l.take k);have az:(grp (l.take k)).length<=500:=by simp at J;omega
   have h:=CR (l.take k);have K:=pR (l.take k);have aj:∀ (w6:World) (g6 a:Nat) (q:List (Int × Int)) (x:Int × Int),q≠[]->q.getLast?=some x->w6.ownsRow w.heap.size 187 2 (.slice (some ⟨g6,0,none⟩) q.length a) q.length (iR q)->w.grownBy w6 none->
     (w6.setCell ⟨g6,(q.length - 1)*2+1,none⟩ (.int .i64 (x.2+1))).ownsRow w.heap.size 187 2 (.slice (some ⟨g6,0,none⟩) q.length a) (nS q).length (iR (nS q))/\w.grownBy (w6.setCell ⟨g6,(q.length - 1)*2+1,none⟩ (.int .i64 (x.2+1))) none/\
     w6.cell? ⟨g6,(q.length - 1)*2+1,none⟩=some (.int .i64 x.2)/\w6.frozen? ⟨g6,(q.length - 1)*2+1,none⟩=false:=by
    intro w6 g6 a q x hq I j Q;have hql:0<q.length:=List.length_pos_iff.2 hq;refine⟨?_,?_,?_,?_⟩
    ·rw [Bn,<-A0 q hq x I];exact js j _ _
    ·exact iF Q (iA j g6 rfl)
    ·rw [j.cellAt _ (by omega)];exact BM q x I
    ·rcases j.2 with ⟨e,_⟩ | ⟨g',cap',cur,hv,hb,hh,_⟩
     ·cases e
     ·simp only [Value.slice.injEq,Option.some.injEq,Addr.mk.injEq,true_and,and_true]at hv;obtain⟨rfl,rfl⟩:=hv;simp [World.frozen?,hh]
   have A:=ij aj;clear aj;have f:=ij d.out.1;have u:=ij d.out.2;have H2s:=d.out.2.size;have R:=iA f.out;have Y:(grp (l.take k)).length+1<=maxLen:=by unfold maxLen;omega
   have af:¬(l.take k).getLast?=some l[k]->∀ (w6:World) (g6 a:Nat),w6.ownsRow w.heap.size 187 2 (.slice (some ⟨g6,0,none⟩) ((grp (l.take k)).length+1) a) ((grp (l.take k)).length+1) (iR (grp (l.take k))++[.int .i64 l[k],.int .i64 0])->w.grownBy w6 none->
     (w6.setCell ⟨g6,(grp (l.take k)).length*2+1,none⟩ (.int .i64 1)).ownsRow w.heap.size 187 2 (.slice (some ⟨g6,0,none⟩) ((grp (l.take k)).length+1) a) (grp (l.take (k+1))).length (iR (grp (l.take (k+1))))/\w.grownBy (w6.setCell ⟨g6,(grp (l.take k)).length*2+1,none⟩ (.int .i64 1)) none/\
     w6.cell? ⟨g6,(grp (l.take k)).length*2+1,none⟩=some (.int .i64 0)/\w6.frozen? ⟨g6,(grp (l.take k)).length*2+1,none⟩=false:=by
    intro hn w6 g6 a j Q;have:=A.out w6 g6 a (grp (l.take k)++[(l[k],0)]) (l[k],0) (by simp) (by simp) (by simpa [iR]using j) Q;have e2:nS (grp (l.take k)++[(l[k],0)])=grp (l.take (k+1)):=by
     rw [V.out,wk,if_neg hn];have:∀ q:List (Int × Int),nS (q++[(l[k],0)])=q++[(l[k],1)]:=by
      intro q;induction q with
      | nil=>rfl
      | cons y q ih=>
       cases q with
       | nil=>rfl
       | cons z q=>rw [List.cons_append,List.cons_append,nS,<-List.cons_append,ih];rfl
     exact this _
    rw [e2]at this;simpa using this
   have C:=ij af;clear af;by_cases T:k=0
   ·have F:=C.out (by subst T;simp);have S:=ij F;clear F C A h K J;have q0:((k:Int)==0)=true:=by simp;omega
    clear T c0;generalize l[k]=x at*;go_wp2_with (at_builtin;refine wpList_append_lies _ rfl _ _ _ rfl w.heap.size 187 i0 _ 2 16 Tryz.underlying195 ad ac ah al rfl (by omega) (.slice x1 x2 x3) (grp (l.take k)).length (iR (grp (l.take k))) rfl (iJ f.out) ⟨b.heap.size,0,none⟩ 1 1 [.int .i64 x,.int .i64 0] rfl rfl (World.news_of_block (cs:= #[.int .i64 x,.int .i64 0]) (t:=187) (fr:=(0,0)) (heap_alloc_new b _)) (by simp [Value.oneCell']) (by omega) Y (by omega) (by simp;omega) (b.heap.size+1) (by simp) ?_;intro g6 a w6 G D W aA;obtain⟨f1,c,P,M⟩:=S.out w6 g6 a G (jG (iq u.out) D (fun q e=>R q e));have H:=ij f1;have B:=ij c;clear f1 c G D W)
    go_roundw
    case rel=>exact⟨k+1,by omega,by go_num,H.out,B.out⟩
    case measure=>simp [intOf];omega
   ·have q0:((k:Int)==0)=false:=by simp;omega
    have am:k - 1<l.length:=by omega
    obtain⟨g',o',e',_,c1⟩:=HC.out (k - 1) am;simp only [Option.some.injEq,Addr.mk.injEq,and_true]at e';obtain⟨rfl,rfl⟩:=e';have d1:=ip u.out _ _ c1;have E:(l.take k).getLast?=some l[k - 1]:=by
     rw [List.getLast?_eq_getElem?,List.length_take,Nat.min_eq_left (by omega),List.getElem?_take,if_pos (by omega),List.getElem?_eq_getElem am]
    have hkk:(k:Int) - 1=((k - 1:Nat):Int):=by omega
    have q1:(0:Int)<=(k:Int) - 1:=by omega
    have q2:(k:Int) - 1<l.length:=by omega
    have q3:((k:Int) - 1).toNat=k - 1:=by omega
    clear c0 c1 T;by_cases r:l[k]=l[k - 1]
    ·have I:∃ x,(grp (l.take k)).getLast?=some x:=by
      rw [E]at h;cases hg2:(grp (l.take k)).getLast? with
      | none=>rw [hg2]at h;cases h
      | some x=>exact⟨x,rfl⟩
     obtain⟨y,s⟩:=I;have O:=K y (List.mem_of_getLast? s);have N:grp (l.take k)≠[]:=fun e=>by rw [e]at s;cases s
     have hE:Hid (nS (grp (l.take k))=grp (l.take (k+1))):=by
      unfold Hid;rw [V.out,wk,if_pos (by rw [E,r])]
     obtain⟨m,p⟩:∃ m,(grp (l.take k)).length=m+1:=⟨(grp (l.take k)).length - 1,by have:=List.length_pos_iff.2 N;omega⟩;obtain⟨g6,a,L,_,_⟩:=f.out.form (by omega);have U:=f.out;rw [L]at U;obtain⟨f1,c,P,M⟩:=A.out b g6 a (grp (l.take k)) y N s U u.out;rw [hE.out,p,Nat.add_sub_cancel]at f1;rw [p,Nat.add_sub_cancel]at c P M;rw [p]at L;simp only [Value.slice.injEq]at L;obtain⟨rfl,rfl,rfl⟩:=L;have H:=ij f1;have B:=ij c;have au:(l[k]==l[k - 1])=true:=by simpa using r
     have hyc2:y.2<=500:=by simp at O;omega
     have hyc1:=O.2.1;have hm500:m+1<=500:=by omega
     have HM:=ij p;rw [p]at Y;clear f1 c U A C h K J az hE N s O p d f u E R V r;generalize l[k]=x at*;generalize l[k - 1]=x' at*;generalize y.2=n at*;go_wp2_with fail
     go_roundw
     case rel=>exact⟨k+1,by omega,by go_num,H.out,B.out⟩
     case measure=>simp [intOf];omega
    ·have F:=C.out (by rw [E];simpa using fun e=>r e.symm);have S:=ij F;have au:(l[k]==l[k - 1])=false:=by simpa using r
     clear F C A h K J E;generalize l[k - 1]=x' at*;generalize l[k]=x at*;go_wp2_with (at_builtin;refine wpList_append_lies _ rfl _ _ _ rfl w.heap.size 187 i0 _ 2 16 Tryz.underlying195 ad ac ah al rfl (by omega) (.slice x1 x2 x3) (grp (l.take k)).length (iR (grp (l.take k))) rfl (iJ f.out) ⟨b.heap.size,0,none⟩ 1 1 [.int .i64 x,.int .i64 0] rfl rfl (World.news_of_block (cs:= #[.int .i64 x,.int .i64 0]) (t:=187) (fr:=(0,0)) (heap_alloc_new b _)) (by simp [Value.oneCell']) (by omega) Y (by omega) (by simp;omega) (b.heap.size+1) (by simp) ?_;intro g6 a w6 G D W aA;obtain⟨f1,c,P,M⟩:=S.out w6 g6 a G (jG (iq u.out) D (fun q e=>R q e));have H:=ij f1;have B:=ij c;clear f1 c G D W)
     go_roundw
     case rel=>exact⟨k+1,by omega,by go_num,H.out,B.out⟩
     case measure=>simp [intOf];omega
  ·have ek:l.take k=l:=List.take_of_length_le (by omega);have q2:(l.length:Int)<=(k:Int):=by omega
   have X:=d.out;rw [ek]at X;have Z:=ij X;clear X d;go_wp2
   go_ret;exact⟨_,_,_,rfl,Z.out.1,Z.out.2⟩
def u8s(l:List Nat):List Value:=l.map fun(x:Nat)=> .int .u8 (x:Int)
theorem ET(l:List Nat):(u8s l).length=l.length:=by simp [u8s]
theorem Cj(l:List Nat)(x:Nat):u8s (l++[x])=u8s l++[.int .u8 (x:Int)]:=by simp [u8s]
theorem EC:((Tryz.prog.info? 5).map fun i=>(i.zero,i.size,i.bytes))=some (some (.int .u8 0),1,1):=by kernel_rfl
def RowM(w:World)(base:Nat)(v:Value)(n:Nat)(xs:List Value):Prop:=
 w.ownsRow base 5 1 v n xs\/∃ g cur,v= .slice (some ⟨g,0,none⟩) n n/\base<=g/\w.heap[g]?=some (.cells cur 5 (n,n+1))/\cur.toList=xs/\xs.length=n
section
variable {w w' : World} {base n : Nat} {v : Value} {xs : List Value}
theorem RowM.form(h:RowM w base v n xs):∃ ao c,v= .slice ao n c:=by
 rcases h with h | ⟨g,cur,rfl,_⟩
 ·obtain⟨x1,x2,x3,rfl⟩:=iw h;exact⟨x1,x3,by rw [iB h]⟩
 ·exact⟨_,_,rfl⟩
theorem RowM.block(h:RowM w base v n xs):∀ k,v.ownBlock=some k->base<=k:=by
 rcases h with h | ⟨g,cur,rfl,hb,_⟩
 ·exact iA h
 ·intro k a;simp only [Value.ownBlock,Option.some.injEq]at a;omega
theorem RowM.lt(h:RowM w base v n xs):∀ k,v.ownBlock=some k->k<w.heap.size:=by
 rcases h with h | ⟨g,cur,rfl,_,hg,_⟩
 ·exact vy h
 ·intro k a;simp only [Value.ownBlock,Option.some.injEq]at a;subst a;exact(Array.getElem?_eq_some_iff.1 hg).1
theorem RowM.keep(h:RowM w base v n xs)(a:∀ k,v.ownBlock=some k->w'.heap[k]?=w.heap[k]?):RowM w' base v n xs:=by
 rcases h with h | ⟨g,cur,rfl,hbg,hg,h4⟩
 ·refine Or.inl ⟨h.1,?_⟩;rcases h.2 with e | ⟨g,cap,cur,rfl,hbg,hg,h4⟩
  ·exact Or.inl e
  ·exact Or.inr ⟨g,cap,cur,rfl,hbg,by rw [a g rfl];exact hg,h4⟩
 ·exact Or.inr ⟨g,cur,rfl,hbg,by rw [a g rfl];exact hg,h4⟩
theorem RowM.alloc{o:Obj}(h:RowM w base v n xs):RowM (w.alloc o) base v n xs:=h.keep fun k hk=>Below.heap_alloc _ _ _ (h.lt k hk)
theorem RowM.len(h:RowM w base v n xs):xs.length=n:=by
 rcases h with h | ⟨g,cur,rfl,hbg,hg,_,h4⟩
 ·simpa using h.1
 ·exact h4
theorem RowM.cells(h:RowM w base v n xs){g:Nat}(a:v.ownBlock=some g):∀ j u,xs[j]?=some u->w.cell? ⟨g,j,none⟩=some u:=by
 intro j u b;rcases h with h | ⟨g',cur,rfl,_,hg',hc,_⟩
 ·have:=h.cells a j u b;have c:(⟨g,0,none⟩:Addr).add j=⟨g,j,none⟩:=by unfold Addr.add;split<;>simp_all
  rwa [c]at this
 ·simp only [Value.ownBlock,Option.some.injEq]at a;subst a;subst hc;simpa [World.cell?,hg']using b
end
theorem mT{o:Oper}{a:Act}{K:Act->World->Prop}{Q:Exit->Act->World->Prop}(w:World)(s x:Operand)
  (l:o.op= .call { callee:= .builtin .append,args:= #[s,x],argTypes:= #[147,147]}) (base:Nat) (v:Value) (n:Nat) (xs:List Value) (q:a.eval s=v) (d:RowM w base v n xs)
  (c:Nat) (y:Value) (e:a.eval x= .slice (some ⟨c,0,none⟩) 1 1) (J:w.heap[c]?=some (.cells #[y] 5 (0,0))) (D:y.oneCell'=true) (hn:n<=2000000) (A:base<=w.heap.size) (H:Nat) (i:w.heap.size=H)
  (h:∀ g cap w',w'.ownsRow base 5 1 (.slice (some ⟨g,0,none⟩) (n+1) cap) (n+1) (xs++[y])->w.grownBy w' v.ownBlock->(v.ownBlock=some g\/g=H)->g<w'.heap.size->K (a.put o.dst (.slice (some ⟨g,0,none⟩) (n+1) cap)) w'):
  o.wp Tryz.prog a w K Q:=by
 obtain⟨f,t,r,b,z⟩:=info_parts EC;have p:n+1<=maxLen:=by unfold maxLen;omega
 have m:∀ j u,[y][j]?=some u->w.cell? ((⟨c,0,none⟩:Addr).add j)=some u:=World.news_of_block (cs:= #[y]) J;rcases d with d | ⟨g,cur,rfl,hb,hg,hcur,hl⟩
 ·exact wp_append_lies w s x _ l base 5 f _ 1 1 Tryz.underlying147 t r b z rfl (by omega) v n xs q d ⟨c,0,none⟩ 1 1 [y] e rfl m (by simpa using D) (by omega) p (by omega) A H i h
 ·have F:∀ j u,xs[j]?=some u->w.cell? ((⟨g,0,none⟩:Addr).add j)=some u:=fun j u hu=>by
   have C:(⟨g,0,none⟩:Addr).add j=⟨g,j,none⟩:=by unfold Addr.add;split<;>simp_all
   rw [C];exact RowM.cells (v:= .slice (some ⟨g,0,none⟩) n n) (base:=base) (n:=n) (Or.inr ⟨g,cur,rfl,hb,hg,hcur,hl⟩) rfl j u hu
  have G:=run_append_grow (P:=Tryz.prog) w 147 o.type 5 f _ Tryz.underlying147 t r ⟨g,0,none⟩ n n xs (by rw [b];omega) F ⟨c,0,none⟩ 1 1 [y] (by rw [b];rfl) m (by omega) (by omega) (growslice_fits (by omega) (by rw [z];omega));have E:=grownCap_ge w (n+1) n 5;have I:grownCap w (n+1) n 5<=maxLen:=grownCap_le_maxLen w (n+1) n 5 p;have B:(xs++[y]).length=(n+1)*1:=by simp [hl]
  unfold Oper.wp execOp;simp only [l,resolve,invoke,builtin,Sem.run_bind,Sem.run_pure,Result.andThen_ok,List.map_toArray,List.map_cons,List.map_nil,q,e,G];refine h _ _ _ ⟨B,.inr ⟨w.heap.size,_,_,rfl,A,heap_alloc_new w.drew _,E,I,?_,?_⟩⟩ ⟨rfl,rfl,rfl,by simp,fun k hk _=>Below.heap_alloc w.drew _ _ hk⟩ (Or.inr i) (by simp)
  ·have b:(Value.int IntKind.u8 0).cells.size=1:=rfl;simp only [Array.size_append,List.size_toArray,size_zeroCells,b,hl,List.length_singleton];omega
  ·simp only [Array.toList_append,List.append_assoc];rw [<-List.append_assoc,<-B];exact List.take_left
theorem oB{ops:Array Oper}{rest:List Oper}{o:Oper}{a:Act}{Q:Exit->Act->World->Prop}(w:World)(hgd:o.guard=none)(s x:Operand)
  (ho:o.op= .call { callee:= .builtin .append,args:= #[s,x],argTypes:= #[147,147]}) (base:Nat) (v:Value) (n:Nat) (xs:List Value) (hs:a.eval s=v) (hown:RowM w base v n xs)
  (g0:Nat) (y:Value) (hx:a.eval x= .slice (some ⟨g0,0,none⟩) 1 1) (hblk:w.heap[g0]?=some (.cells #[y] 5 (0,0))) (h1:y.oneCell'=true) (hn:n<=2000000) (hbase:base<=w.heap.size) (H:Nat) (hH:w.heap.size=H)
  (h:∀ g cap w',w'.ownsRow base 5 1 (.slice (some ⟨g,0,none⟩) (n+1) cap) (n+1) (xs++[y])->w.grownBy w' v.ownBlock->(v.ownBlock=some g\/g=H)->g<w'.heap.size->wpList Tryz.prog ops Q rest (a.put o.dst (.slice (some ⟨g,0,none⟩) (n+1) cap)) w'):
  wpList Tryz.prog ops Q (o::rest) a w:=
 wpList_plain hgd fun _ hK=>mT w s x ho base v n xs hs hown g0 y hx hblk h1 hn hbase H hH fun g cap w' h2 h3 h4 h5=>hK _ _ (h g cap w' h2 h3 h4 h5)
def bs(l:List Nat):ByteArray:=strOfNums (l.map fun(x:Nat)=>(x:Int))
theorem rY(l:List Nat):(bs l).size=l.length:=by unfold bs;rw [strOfNums_size];simp
theorem yH{l:List Nat}(h:∀ x∈l,x<256):byt (bs l)=l:=by
 unfold byt bs;rw [strOfNums_data,List.map_map,List.map_map];conv=>rhs;rw [<-List.map_id l]
 refine List.map_congr_left fun x hx=>?_
 have:=h x hx;simp;omega
theorem RowM.str{w:World}{base n:Nat}{v:Value}{l:List Nat}(h:RowM w base v n (u8s l)):(convert 147 9 v).run Tryz.prog w= .ok (.string (bs l)) w:=by
 have a:=h.len;rw [ET]at a;subst a;have b:∀ g,v.ownBlock=some g->∀ i,i<l.length->w.cell? ⟨g,0+i,none⟩=some (.int .u8 ((l.map fun(x:Nat)=>(x:Int)).getD i 0)):=fun g hg i hi=>by
  have:=h.cells hg i (.int .u8 (l[i]:Nat)) (by simp [u8s,hi]);rw [Nat.zero_add,this];simp [List.getD,hi]
 rcases h with h | ⟨g,cur,rfl,_⟩
 ·rcases h.2 with ⟨rfl,e⟩ | ⟨g,cap,cur,rfl,_⟩
  ·have:l=[]:=List.eq_nil_of_length_eq_zero e;subst this;exact run_convert_bytes_nil w _ _ Tryz.underlying147 Tryz.underlying5 0 0 _ Tryz.underlying9
  ·exact run_convert_bytes_arg w _ _ Tryz.underlying147 Tryz.underlying5 g 0 l.length cap _ (by simp) (b g rfl) _ Tryz.underlying9
 ·exact run_convert_bytes_arg w _ _ Tryz.underlying147 Tryz.underlying5 g 0 l.length _ _ (by simp) (b g rfl) _ Tryz.underlying9
structure WrS(W:World)(w:World)(b:Nat)(bv:Value)(l:List Nat):Prop where
 blk:w.heap[b]?=some (.cells #[bv] 172 (0,0))
 row:RowM w W.heap.size bv l.length (u8s l)
 ne:bv.ownBlock≠some b
 lo:W.heap.size<=b
 base:W.grownBy w none
theorem WrS.cell{W w:World}{b:Nat}{bv:Value}{l:List Nat}(h:WrS W w b bv l):w.cell? ⟨b,0,none⟩=some bv:=by have:=h.blk;simp [World.cell?,this]
theorem WrS.free{W w:World}{b:Nat}{bv:Value}{l:List Nat}(h:WrS W w b bv l):w.frozen? ⟨b,0,none⟩=false:=by have:=h.blk;simp [World.frozen?,this]
theorem WrS.lt{W w:World}{b:Nat}{bv:Value}{l:List Nat}(h:WrS W w b bv l):b<w.heap.size:=(Array.getElem?_eq_some_iff.1 h.blk).1
theorem WrS.grown{W w w':World}{b:Nat}{bv:Value}{l:List Nat}(h:WrS W w b bv l)(hg:w.grownBy w' none):WrS W w' b bv l:=
 ⟨by rw [hg.block b h.lt (by simp)];exact h.blk,h.row.keep (fun k hk=>hg.block k (h.row.lt k hk) (by simp)),h.ne,h.lo,il h.base hg⟩
structure WrT(w0 w:World)(b:Nat)(bv0 bv:Value):Prop where
 keep:∀ k,k<w0.heap.size->k≠b->bv0.ownBlock≠some k->w.heap[k]?=w0.heap[k]?
 own:∀ g,bv.ownBlock=some g->bv0.ownBlock=some g\/w0.heap.size<=g
 size:w0.heap.size<=w.heap.size
theorem WrT.refl(w:World)(b:Nat)(bv:Value):WrT w w b bv bv:=⟨fun _ _ _ _=>rfl,fun _ h=>Or.inl h,Nat.le_refl _⟩
theorem WrT.trans{i l c:World}{b:Nat}{d j f:Value}(h:WrT i l b d j)(a:WrT l c b j f):WrT i c b d f:=by
 refine⟨fun k hk hb ho=>?_,fun g hg=>?_,Nat.le_trans h.size a.size⟩
 ·rw [a.keep k (Nat.lt_of_lt_of_le hk h.size) hb (fun e=>by rcases h.own k e with e2 | e2;exact ho e2;omega)];exact h.keep k hk hb ho
 ·rcases a.own g hg with e | e
  ·exact h.own g e
  ·exact Or.inr (Nat.le_trans h.size e)
theorem WrT.grown{w0 w1 w2:World}{b:Nat}{v0 v1:Value}(h:WrT w0 w1 b v0 v1)(hg:w1.grownBy w2 none):WrT w0 w2 b v0 v1:=
 ⟨fun k hk hb ho=>by rw [hg.block k (Nat.lt_of_lt_of_le hk h.size) (by simp)];exact h.keep k hk hb ho,h.own,Nat.le_trans h.size hg.size⟩
theorem WrS.push{W w w6:World}{b:Nat}{a:Value}{l:List Nat}{o:Obj}{g6 c6 x:Nat}(h:WrS W w b a l)(m:w6.ownsRow W.heap.size 5 1 (.slice (some ⟨g6,0,none⟩) (l.length+1) c6) (l.length+1) (u8s l++[.int .u8 x]))
  (c:(w.alloc o).grownBy w6 a.ownBlock) (i:a.ownBlock=some g6\/g6=w.heap.size+1):WrS W (w6.setCell ⟨b,0,none⟩ (.slice (some ⟨g6,0,none⟩) (l.length+1) c6)) b (.slice (some ⟨g6,0,none⟩) (l.length+1) c6) (l++[x])/\
  w6.cell? ⟨b,0,none⟩=some a/\w6.frozen? ⟨b,0,none⟩=false/\WrT w (w6.setCell ⟨b,0,none⟩ (.slice (some ⟨g6,0,none⟩) (l.length+1) c6)) b a (.slice (some ⟨g6,0,none⟩) (l.length+1) c6):=by
 have n:=h.lt;have d:w6.heap[b]?=some (.cells #[a] 172 (0,0)):=by
  rw [c.block b (by simp;omega) (fun e=>h.ne e.symm),Below.heap_alloc _ _ _ n];exact h.blk
 have f:g6≠b:=by
  rcases i with e | e
  ·intro j;exact h.ne (by rw [e,j])
  ·omega
 refine⟨⟨?_,?_,by simpa [Value.ownBlock]using f,h.lo,?_⟩,by simp [World.cell?,d],by simp [World.frozen?,d],fun k hk hb' ho=>?_,fun g hg'=>?_,?_⟩
 ·rw [heap_setCell_same _ b 0 _ _ _ d];rfl
 ·refine Or.inl (ownsRow_setCell_other ?_ (by simpa [Value.ownBlock]using f) _);rw [Cj];simpa using m
 ·exact iF (jG (iq h.base) c h.row.block) h.lo
 ·rw [heap_setCell_other _ _ _ _ hb',c.block k (by simp;omega) (fun e=>ho e.symm),Below.heap_alloc _ _ _ hk]
 ·simp only [Value.ownBlock,Option.some.injEq]at hg';rcases i with e | e
  ·exact Or.inl (by rw [e,hg'])
  ·exact Or.inr (by omega)
 ·have:=c.size;simp at this ⊢;omega
theorem F5(x:Nat)(h:x<256):x ||| 128=x % 128+128:=by
 have:∀ x:_root_.Fin 256,x.val ||| 128=x.val % 128+128:=by decide+kernel
 exact this ⟨x,h⟩
theorem BX(n:Nat):∀ k,n<128 ^ (k+1)->(jY n).length<=k+1:=by
 induction n using Nat.strongRecOn with
 | ind n ih=>
  intro k a;by_cases h:n<128
  ·rw [lS h];simp
  ·rw [np h];cases k with
   | zero=>simp at a;omega
   | succ k=>
    have:=ih (n / 128) (by omega) k (by rw [Nat.div_lt_iff_lt_mul (by decide)];rwa [Nat.pow_succ]at a);simp;omega
theorem mL{n:Nat}(h:n<18446744073709551616):(jY n).length<=10:=by
 have a:(128:Nat) ^ (9+1)=1180591620717411303424:=by decide
 exact BX n 9 (by rw [a];omega)
theorem wn(W:World)(b:Nat)(n:Nat)(D:n<18446744073709551616):∀ (w:World) (f:Value) (l:List Nat),WrS W w b f l->l.length<=1000000->
  Calls Tryz.prog 169 #[pt b,.int .u64 n] w fun e w'=>(∃ v,e= .returned v)/\∃ bv',WrS W w' b bv' (l++jY n)/\WrT w w' b f bv':=by
 intro w f l h hl;have K:=ij h;have E:pt b= .pointer (some ⟨b,0,none⟩):=rfl;rw [E];clear h E;go_enter Tryz.func169,Tryz.ntmps169
 go_wp2_with fail
 go_loopw [1] (fun i w'=>∃ (m:Nat) (bv':Value) (a:List Nat),i= .int .u64 m/\m<18446744073709551616/\Hid (WrS W w' b bv' a)/\Hid (WrT w w' b f bv')/\Hid (a++jY m=l++jY n)) (fun i _=>(intOf i).toNat)
 case atStart=>exact⟨n,f,l,rfl,D,K,ij (WrT.refl _ _ _),ij rfl⟩
 case round=>
  obtain⟨m,bv',a,rfl,hm,d,z,u⟩:=hrel;obtain⟨c,C⟩:∃ c,c=wr:=⟨_,rfl⟩;rw [<-C]at d z ⊢;clear C;obtain⟨x1,x3,rfl⟩:=d.out.row.form;have c0:=d.out.cell;have hbs:W.heap.size<=c.heap.size:=d.out.base.size;have hob:=d.out.row.block;have hl':a.length<=1000100:=by
   have y:=congrArg List.length u.out;have:=mL D;simp at y;omega
  by_cases h128:127<m
  ·have I:(127:Int)<(m:Int):=by omega
   have hor:bits .or .u8 ((m:Int) % 256) 128=((m % 128+128:Nat):Int):=by
    have y:((m:Int) % 256)=((m % 256:Nat):Int):=by omega
    have r:=u8_or_nat (m % 256) 128 (by omega) (by omega);rw [y];rw [F5 _ (by omega)]at r;have F:(((128:Nat):Int))=128:=rfl;rw [F]at r;rw [r];congr 1
    omega
   have t:Hid ((a++[m % 128+128])++jY (m / 128)=l++jY n):=by
    have e:jY m=(m % 128+128)::jY (m / 128):=np (by omega);unfold Hid;rw [<-u.out,e];simp
   generalize m % 128+128=x at*;go_upto_region 2 with (at_builtin;refine oB _ rfl _ _ rfl W.heap.size (.slice x1 a.length x3) a.length (u8s a) rfl d.out.row.alloc c.heap.size (.int .u8 (x:Int)) rfl (heap_alloc_new c _) rfl (by omega) (by simp;omega) (c.heap.size+1) (by simp) ?_;intro g6 G w6 j o q A;obtain⟨p,J,H,k⟩:=d.out.push j o q;have s:=ij p;have B:=ij (z.out.trans k);clear p k j o q A)
   have q3:m / 128<m:=by omega
   go_wp2_with fail
   go_roundw
   case rel=>exact⟨m / 128,_,a++[x],by first | rfl | (congr 1;omega) | go_num,by omega,s,B,t⟩
   case measure=>simp [intOf];omega
  ·have I:¬(127:Int)<(m:Int):=by omega
   have hmod:(m:Int) % 256=m:=by omega
   have t:Hid (a++[m]=l++jY n):=by unfold Hid;rw [<-u.out,lS (by omega)]
   go_wp2_with (at_builtin;refine oB _ rfl _ _ rfl W.heap.size (.slice x1 a.length x3) a.length (u8s a) rfl d.out.row.alloc c.heap.size (.int .u8 (m:Int)) rfl (heap_alloc_new c _) rfl (by omega) (by simp;omega) (c.heap.size+1) (by simp) ?_;intro g6 G w6 j o q A;obtain⟨p,J,H,k⟩:=d.out.push j o q;have s:=ij p;have B:=ij (z.out.trans k);clear p k j o q A)
   go_end0
   exact⟨⟨_,rfl⟩,_,by rw [<-t.out];exact s.out,B.out⟩
def uy(W w:World)(b:Nat)(bv:Value)(l:List Nat)(e:Ending)(w':World):Prop:=(∃ v,e= .returned v)/\∃ bv',WrS W w' b bv' l/\WrT w w' b bv bv'
theorem mh(W:World)(b:Nat)(n:Int)(c:0<=n)(h1:n<=9223372036854775807)(w:World)(a:Value)(l:List Nat)(h:WrS W w b a l)(i:l.length<=1000000):
  Calls Tryz.prog 133 #[pt b,.int .i64 n] w (uy W w b a (l++jw n)):=by
 obtain⟨m,rfl⟩:=Int.eq_ofNat_of_zero_le c;have j:=ij (wn W b m (by omega) w a l h i);have d:pt b= .pointer (some ⟨b,0,none⟩):=rfl;rw [d]at*;clear h;go_enter Tryz.func133,Tryz.ntmps133
 go_wp2_with (go_at_call 169;refine j.out.mono ?_;rintro e w1 ⟨⟨v,rfl⟩,f⟩)
 go_end0
 refine⟨⟨_,rfl⟩,?_⟩;unfold jw;rw [Int.toNat_natCast];exact f
theorem xJ(n x:Nat)(h:x<2 ^ n):(2 ^ n - 1) ^^^ x=2 ^ n - 1 - x:=by
 have e:2 ^ n - 1 - x=2 ^ n - (x+1):=by omega
 apply Nat.eq_of_testBit_eq;intro i;rw [Nat.testBit_xor,Nat.testBit_two_pow_sub_one,e,Nat.testBit_two_pow_sub_succ h];by_cases a:i<n
 ·simp [a]
 ·have:x.testBit i=false:=Nat.testBit_lt_two_pow (Nat.lt_of_lt_of_le h (Nat.pow_le_pow_right (by decide) (by omega)));simp [a,this]
theorem FQ(n:Int)(h0: -9223372036854775808<=n)(h1:n<0):bits .xor .u64 IntKind.u64.max (IntKind.u64.wrap (IntKind.u64.wrap n*2))= -2*n - 1:=by
 have d:IntKind.u64.wrap n=n+18446744073709551616:=by
  simp only [IntKind.wrap,IntKind.signed,IntKind.bits];simp;omega
 have a:IntKind.u64.wrap ((n+18446744073709551616)*2)=2*n+18446744073709551616:=by
  simp only [IntKind.wrap,IntKind.signed,IntKind.bits];simp;omega
 rw [d,a];obtain⟨x,c⟩:=Int.eq_ofNat_of_zero_le (show 0<=2*n+18446744073709551616 by omega);have b:IntKind.u64.max=((18446744073709551615:Nat):Int):=rfl;rw [c,b,bits_xor_u64_nat _ _ (by decide) (by omega)];have:=xJ 64 x (by omega);have e:(2:Nat) ^ 64 - 1=18446744073709551615:=by decide
 rw [e]at this;rw [this];omega
theorem BP(W:World)(b:Nat)(n:Int)(k: -9223372036854775808<=n)(h1:n<=9223372036854775807)(w:World)(c:Value)(l:List Nat)(h:WrS W w b c l)(q:l.length<=1000000):
  Calls Tryz.prog 134 #[pt b,.int .i64 n] w (uy W w b c (l++jY (zig n))):=by
 have o:zig n<18446744073709551616:=by unfold zig;split<;>omega
 have j:=ij (wn W b (zig n) o w c l h q);have m:pt b= .pointer (some ⟨b,0,none⟩):=rfl;rw [m]at*;clear h;by_cases f:n<0
 ·have d:Hid (((zig n:Nat):Int)= -2*n - 1):=by unfold Hid zig;rw [if_pos f];omega
  go_enter Tryz.func134,Tryz.ntmps134
  go_wp2_with fail
  rw [FQ n k f,<-d.out];refine j.out.mono ?_;rintro e p ⟨⟨v,rfl⟩,a⟩;go_wp2_with fail
  go_end0
  exact⟨⟨_,rfl⟩,a⟩
 ·have d:Hid (((zig n:Nat):Int)=2*n):=by unfold Hid zig;rw [if_neg f];omega
  go_enter Tryz.func134,Tryz.ntmps134
  go_wp2_with fail
  have i:n*2=((zig n:Nat):Int):=by rw [d.out];omega
  rw [i];refine j.out.mono ?_;rintro e p ⟨⟨v,rfl⟩,a⟩;clear i;go_wp2_with fail
  go_end0
  exact⟨⟨_,rfl⟩,a⟩
theorem lp(s:ByteArray)(k:Nat)(h:k<s.size):(byt s).drop k=s[k].toNat::(byt s).drop (k+1):=by
 have a:k<(byt s).length:=by rw [iS];exact h
 rw [List.drop_eq_getElem_cons a];congr 1
 have:=ms s k h;rw [List.getElem?_eq_getElem a]at this;exact Option.some.inj this
section
variable {P : Program} {ops : Array Oper} {Q : Exit -> Act -> World -> Prop} {S : World -> Prop} {n : Nat}
theorem rB{i j:Nat}{e l:Oper}{f:Nat}{b:Array Bool}{a:Act}{w:World}(r:ops[i]?=some e)(s:ops[j]?=some l)
  (d:Region.ready .any ops b=[i,j]) (c:(decide (i<n) && decide (j<n))=true) (t:Region.wanted e (yielded ops a.tmps)=true) (q:Region.wanted l (yielded ops a.tmps)=true)
  (o:∀ K:Act->World->Prop,(∀ a' w',S w'->(HeadInv .any ops n (b.setIfInBounds i true)->lU P ops Q S n f (b.setIfInBounds i true) a' w')->K a' w')->e.wp P a w K Q)
  (p:∀ K:Act->World->Prop,(∀ a' w',S w'->(HeadInv .any ops n (b.setIfInBounds j true)->lU P ops Q S n f (b.setIfInBounds j true) a' w')->K a' w')->l.wp P a w K Q):
  HeadInv .any ops n b->lU P ops Q S n (f+1) b a w:=by
 intro m;simp only [Bool.and_eq_true,decide_eq_true_eq]at c;refine⟨fun h=>(by rw [d]at h;cases h),fun k hk=>?_⟩;rw [d]at hk;simp only [List.mem_cons,List.not_mem_nil,or_false]at hk;rcases hk with rfl | rfl
 ·refine⟨c.1,?_⟩;unfold wpOp;simp only [r,t,if_true];exact Or.inl (o _ (fun a' w' hS hh=>⟨hS,hh (m.set (by rw [d];simp) c.1)⟩))
 ·refine⟨c.2,?_⟩;unfold wpOp;simp only [s,q,if_true];exact Or.inl (p _ (fun a' w' hS hh=>⟨hS,hh (m.set (by rw [d];simp) c.2)⟩))
end
theorem rX{w:World}{g:Nat}{x:Nat}(h:w.cell? ⟨g,0,none⟩=some (.int .u8 (x:Int))):(convert 147 9 (.slice (some ⟨g,0,none⟩) 1 1)).run Tryz.prog w= .ok (.string (bs [x])) w:=
 run_convert_bytes_arg w _ _ Tryz.underlying147 Tryz.underlying5 g 0 1 1 _ (by simp) (fun i hi=>by
  have hi':i=0:=by simp at hi;omega
  subst hi';rw [Nat.add_zero,h];simp) _ Tryz.underlying9
theorem kC{w w':World}(h:w.drew.grownBy w' none):w.grownBy w' none:=⟨h.os,h.tape,h.output,h.size,h.block⟩
theorem yI(w:World)(x:Nat):(match (w.alloc (.cells #[.int .u8 (x:Int)] 5)).heap[w.heap.size]? with | some (.cells cs _ _)=>cs[0]? | _=>none)=some (.int .u8 (x:Int)):=by rw [heap_alloc_new];rfl
theorem Fm(l m:List Nat):bs l++bs m=bs (l++m):=by
 apply ByteArray.ext;apply Array.ext';simp [bs,strOfNums_data]
theorem CG(l m:List Nat)(h:l.length+m.length<=9223372036854775807):Op.stringOp .add (bs l) (bs m)=pure (.string (bs (l++m))):=by
 unfold Op.stringOp;have:=rY l;have:=rY m;rw [if_neg (by simp only [IntKind.max,IntKind.signed,IntKind.bits];simp;omega),Fm]
theorem jJ(n:Nat):∀ (w:World),n<18446744073709551616->Calls Tryz.prog 66 #[.int .u64 n] w fun e w'=>e= .returned (.string (bs (jY n)))/\w.grownBy w' none:=by
 induction n using Nat.strongRecOn with
 | ind n ih=>
  intro w hn;have C:=ij ih;clear ih;go_enter Tryz.func66,Tryz.ntmps66
  by_cases h:n<128
  ·have D:(n:Int)<128:=by omega
   have hmod:(n:Int) % 256=n:=by omega
   have m:(convert 147 9 (.slice (some ⟨w.heap.size,0,none⟩) 1 1)).run Tryz.prog (w.alloc (.cells #[.int .u8 (n:Int)] 5))= .ok (.string (bs [n])) (w.alloc (.cells #[.int .u8 (n:Int)] 5)):=rX (by simp only [World.cell?,heap_alloc_new];rfl);have r:Hid (jY n=[n]):=lS h;go_wp2_with fail
   go_ret;exact⟨by rw [r.out];rfl,iq (ir _ _)⟩
  ·have D:¬(n:Int)<128:=by omega
   have r:Hid (jY n=(n % 128+128)::jY (n / 128)):=np h;have s:=ij (fun w'=>C.out (n / 128) (by omega) w' (by omega));go_wp2_with fail
   refine iz (fun _=>True) 10 (by kernel_rfl) (by kernel_rfl) trivial ?_;intro hHeld;refine gJ 0 ?v0 rfl (by kernel_rfl) (fun _ _ _ h=>h) (by kernel_rfl) ?y0 trivial ?_
   case y0=>(intro u l;go_simp;try rfl)
   simp only [Act.put,List.setIfInBounds_toArray];refine gJ 1 ?v1 rfl (by kernel_rfl) (fun _ _ _ h=>h) (by kernel_rfl) ?y1 trivial ?_
   case y1=>(intro u l;go_simp;try rfl)
   simp only [Act.put];refine gJ 2 ?v2 rfl (by kernel_rfl) (fun _ _ _ h=>h) (by kernel_rfl) ?y2 trivial ?_
   case y2=>(intro u l;go_simp;try rfl)
   simp only [Act.put];refine gJ 3 ?v3 rfl (by kernel_rfl) (fun _ _ _ h=>h) (by kernel_rfl) ?y3 trivial ?_
   case y3=>(intro u l;go_simp;try rfl)
   simp only [Act.put];refine gJ 6 ?v6 rfl (by kernel_rfl) (fun _ _ _ h=>h) (by kernel_rfl) ?y6 trivial ?_
   case y6=>(intro u l;go_simp;try rfl)
   simp only [Act.put];refine gJ 7 ?v7 rfl (by kernel_rfl) (fun _ _ _ h=>h) (by kernel_rfl) ?y7 trivial ?_
   case y7=>(intro u l;go_simp;try rfl)
   simp only [Act.put];have t:IntKind.u8.wrap (IntKind.u64.wrap (128+(n:Int).tmod 128))=((n % 128+128:Nat):Int):=by
    have B:(n:Int).tmod 128=((n % 128:Nat):Int):=by rw [Int.tmod_eq_emod_of_nonneg (by omega)];omega
    rw [B];simp only [IntKind.wrap,IntKind.signed,IntKind.bits];simp;omega
   have y:IntKind.u64.wrap ((n:Int) / 128)=((n / 128:Nat):Int):=by
    simp only [IntKind.wrap,IntKind.signed,IntKind.bits];simp;omega
   simp only [t,y];have hx:n % 128+128<256:=by omega
   have A:Hid ((jY (n / 128)).length<=10):=mL (by omega);clear t y;generalize hxx:n % 128+128=x at*;have hcat:=CG [x] (jY (n / 128)) (by have:=A.out;simp;omega);refine rB (i:=4) (j:=8) rfl rfl (by kernel_rfl) (by kernel_rfl) (by kernel_rfl) (by kernel_rfl) ?_ ?_
   ·intro E p;have o:=ij p;clear p;go_simp;refine o.out _ _ trivial ?_;clear o;try simp only [Act.put,List.setIfInBounds_toArray]
    have m:(convert 147 9 (.slice (some ⟨w.heap.size,0,none⟩) 1 1)).run Tryz.prog (w.alloc (.cells #[.int .u8 (x:Int)] 5)).drew= .ok (.string (bs [x])) (w.alloc (.cells #[.int .u8 (x:Int)] 5)).drew:=rX (by simp only [World.cell?];exact yI w x);refine rB (i:=5) (j:=8) rfl rfl (by kernel_rfl) (by kernel_rfl) (by kernel_rfl) (by kernel_rfl) ?_ ?_
    ·intro z k;have c:=ij k;clear k;go_simp;refine c.out _ _ trivial ?_;clear c m;try simp only [Act.put,List.setIfInBounds_toArray]
     refine iu (i:=8) rfl (by kernel_rfl) (by kernel_rfl) (by kernel_rfl) ?_;intro v f;have d:=ij f;clear f;go_simp;refine(s.out _).mono ?_;rintro e a ⟨rfl,b⟩;have q:Hid (w.grownBy a none):=il (iq (ir _ _)) (kC b);refine d.out _ _ trivial ?_;clear d b;try simp only [Act.put,List.setIfInBounds_toArray]
     refine gJ 9 ?v9a rfl (by kernel_rfl) (fun _ _ _ h=>h) (by kernel_rfl) ?y9a trivial ?_
     case y9a=>(intro u l;go_simp;try rfl)
     simp only [Act.put,List.setIfInBounds_toArray];refine iH rfl (by kernel_rfl) (by kernel_rfl) (by kernel_rfl) ?_;go_simp;go_wp2_with fail
     go_ret;exact⟨by rw [r.out];rfl,q.out⟩
    ·intro v f;have d:=ij f;clear f;go_simp;refine(s.out _).mono ?_;rintro e a ⟨rfl,b⟩;have q:Hid (w.grownBy a none):=il (iq (ir _ _)) (kC b);have m:(convert 147 9 (.slice (some ⟨w.heap.size,0,none⟩) 1 1)).run Tryz.prog a= .ok (.string (bs [x])) a:=rX (ip (kC b) _ _ (by simp only [World.cell?];exact yI w x));refine d.out _ _ trivial ?_;clear d b;try simp only [Act.put,List.setIfInBounds_toArray]
     refine iu (i:=5) rfl (by kernel_rfl) (by kernel_rfl) (by kernel_rfl) ?_;intro z k;have c:=ij k;clear k;go_simp;refine c.out _ _ trivial ?_;clear c m;try simp only [Act.put,List.setIfInBounds_toArray]
     refine gJ 9 ?v9b rfl (by kernel_rfl) (fun _ _ _ h=>h) (by kernel_rfl) ?y9b trivial ?_
     case y9b=>(intro u l;go_simp;try rfl)
     simp only [Act.put,List.setIfInBounds_toArray];refine iH rfl (by kernel_rfl) (by kernel_rfl) (by kernel_rfl) ?_;go_simp;go_wp2_with fail
     go_ret;exact⟨by rw [r.out];rfl,q.out⟩
   ·intro v f;have d:=ij f;clear f;go_simp;refine(s.out _).mono ?_;rintro e a ⟨rfl,b⟩;have q:Hid (w.grownBy a none):=kC b;have m:(convert 147 9 (.slice (some ⟨a.heap.size,0,none⟩) 1 1)).run Tryz.prog (a.alloc (.cells #[.int .u8 (x:Int)] 5))= .ok (.string (bs [x])) (a.alloc (.cells #[.int .u8 (x:Int)] 5)):=rX (by simp only [World.cell?];exact yI a x);refine d.out _ _ trivial ?_;clear d b;try simp only [Act.put,List.setIfInBounds_toArray]
    refine iu (i:=4) rfl (by kernel_rfl) (by kernel_rfl) (by kernel_rfl) ?_;intro E p;have o:=ij p;clear p;go_simp;refine o.out _ _ trivial ?_;clear o;try simp only [Act.put,List.setIfInBounds_toArray]
    refine iu (i:=5) rfl (by kernel_rfl) (by kernel_rfl) (by kernel_rfl) ?_;intro z k;have c:=ij k;clear k;go_simp;refine c.out _ _ trivial ?_;clear c m;try simp only [Act.put,List.setIfInBounds_toArray]
    refine gJ 9 ?v9c rfl (by kernel_rfl) (fun _ _ _ h=>h) (by kernel_rfl) ?y9c trivial ?_
    case y9c=>(intro u l;go_simp;try rfl)
    simp only [Act.put,List.setIfInBounds_toArray];refine iH rfl (by kernel_rfl) (by kernel_rfl) (by kernel_rfl) ?_;go_simp;go_wp2_with fail
    go_ret;exact⟨by rw [r.out];rfl,iq q.out⟩
theorem Dq(a b:Nat)(ha:a<4294967296)(hb:b<4294967296):bits .xor .i64 (a:Int) (b:Int)=((a ^^^ b:Nat):Int):=by
 have hx:a ^^^ b<2 ^ 32:=Nat.xor_lt_two_pow (by omega) (by omega);have c:(BitVec.ofInt 64 (a:Int)).toNat=a:=by
  rw [BitVec.ofInt_natCast,BitVec.toNat_ofNat];exact Nat.mod_eq_of_lt (by omega)
 have d:(BitVec.ofInt 64 (b:Int)).toNat=b:=by
  rw [BitVec.ofInt_natCast,BitVec.toNat_ofNat];exact Nat.mod_eq_of_lt (by omega)
 show IntKind.i64.wrap ((BitVec.ofInt 64 (a:Int) ^^^ BitVec.ofInt 64 (b:Int)).toNat:Int)=_
 rw [BitVec.toNat_xor,c,d];simp only [IntKind.wrap,IntKind.signed,IntKind.bits];simp;omega
theorem Bg(n:Int)(w:World)(h0: -9223372036854775808<=n)(h1:n<=9223372036854775807):Calls Tryz.prog 67 #[.int .i64 n] w fun e w'=>e= .returned (.int .u64 (zig n:Nat))/\w'=w:=by
 go_enter Tryz.func67,Tryz.ntmps67
 by_cases h:n<0
 ·have a:Hid (((zig n:Nat):Int)= -2*n - 1):=by unfold Hid zig;rw [if_pos h];omega
  go_wp2_with fail
  go_ret;exact⟨by rw [a.out,show -2*n - 1=2* -(n+1)+1 by omega];rfl,rfl⟩
 ·have a:Hid (((zig n:Nat):Int)=2*n):=by unfold Hid zig;rw [if_neg h];omega
  go_wp2_with fail
  go_ret;exact⟨by rw [a.out];rfl,rfl⟩
theorem C2(s:ByteArray)(w:World)(hs:s.size<=9223372036854775806):Calls Tryz.prog 69 #[.string s] w fun e w'=>e= .returned (.int .i64 (lz (byt s):Nat))/\w'=w:=by
 have q0:(s.size:Int)<=9223372036854775806:=by omega
 have p:Hid ((byt s).length=s.size):=iS s;have HB256:Hid (∀ b∈byt s,b<256):=fun b hb=>vc s b hb
 have q:Hid (rT 4294967295 ((byt s).take 0)=4294967295):=rfl;go_enter Tryz.func69,Tryz.ntmps69
 go_wp2_with fail
 go_loopw [3,4] (fun vv iv w'=>∃ (i v:Nat),i<=s.size/\v<4294967296/\iv= .int .i64 i/\vv= .int .i64 v/\w'=w/\Hid (rT 4294967295 ((byt s).take i)=v)) (fun _ iv _=>s.size - (intOf iv).toNat)
 case atStart=>exact⟨0,4294967295,Nat.zero_le _,by omega,rfl,rfl,rfl,q⟩
 case round=>
  clear q;obtain⟨i,v,hi,h,rfl,rfl,j,n⟩:=hrel;subst j;by_cases B:i<s.size
  ·have t0:(0:Int)<=(i:Int):=by omega
   have E:(i:Int)<s.size:=by omega
   obtain⟨c,hc⟩:∃ c,c=s[i].toNat:=⟨_,rfl⟩;have l:c<256:=by rw [hc];exact UInt8.toNat_lt _
   have z:Hid (rT 4294967295 ((byt s).take (i+1))=(lZ 8 (v,c)).1):=by
    unfold Hid;have D:i<(byt s).length:=by rw [p.out];exact B
    rw [List.take_succ_eq_append_getElem D,rK,n.out,wW v c l];have:(byt s)[i]=c:=by rw [hc];simp [byt];rfl
    simp [rT,this]
   have C:s[i].toNat=c:=hc.symm;clear hc;go_upto_region 6 with fail
   clear C;go_wp2_with fail
   go_loopw [3,5,6] (fun vv cv kv w'=>∃ k:Nat,k<=8/\kv= .int .i64 k/\vv= .int .i64 ((lZ k (v,c)).1:Nat)/\cv= .int .i64 ((lZ k (v,c)).2:Nat)/\w'=wr) (fun _ _ kv _=>8 - (intOf kv).toNat)
   case atStart=>exact⟨0,Nat.zero_le _,rfl,rfl,rfl,rfl⟩
   case round=>
    obtain⟨k,hk,rfl,rfl,rfl,j⟩:=hrel;subst j;by_cases hk8:k<8
    ·have u:(k:Int)<8:=by omega
     obtain⟨m,A⟩:=wU k v c h l;have d:Hid (lZ (k+1) (v,c)=tM (lZ k (v,c))):=rfl;generalize lZ k (v,c)=x at*;obtain⟨x1,x2⟩:=x;simp only at m A ⊢;by_cases f:(x1+x2) % 2=1
     ·have F:Int.tmod ((x1:Int)+(x2:Int)) 2=1:=by rw [Int.tmod_eq_emod_of_nonneg (by omega)];omega
      have hxr:bits .xor .i64 ((x1:Int) / 2) 3988292384=(((x1 / 2) ^^^ 3988292384:Nat):Int):=by
       have:=Dq (x1 / 2) 3988292384 (by omega) (by omega);rw [<-this];congr 1<;>omega
      have a:Hid (tM (x1,x2)=((x1 / 2) ^^^ 3988292384,x2 / 2)):=by unfold Hid tM;simp only;rw [if_pos f]
      clear f;go_wp2_with fail
      go_roundw
      case rel=>exact⟨k+1,by omega,by go_num,by rw [d.out,a.out],by rw [d.out,a.out];simp,by first | rfl | trivial⟩
      case measure=>simp [intOf];omega
     ·have F:Int.tmod ((x1:Int)+(x2:Int)) 2=0:=by rw [Int.tmod_eq_emod_of_nonneg (by omega)];omega
      have a:Hid (tM (x1,x2)=(x1 / 2,x2 / 2)):=by unfold Hid tM;simp only;rw [if_neg f]
      clear f;go_wp2_with fail
      go_roundw
      case rel=>exact⟨k+1,by omega,by go_num,by rw [d.out,a.out];simp,by rw [d.out,a.out];simp,by first | rfl | trivial⟩
      case measure=>simp [intOf];omega
    ·have u:(8:Int)<=(k:Int):=by omega
     have t:k=8:=by omega
     subst t;have m:=(wU 8 v c h l).1;go_wp2_with fail
     go_roundw
     case rel=>exact⟨i+1,(lZ 8 (v,c)).1,by omega,m,by go_num,by first | rfl | trivial,by first | rfl | trivial,z⟩
     case measure=>simp [intOf];omega
  ·have E:(s.size:Int)<=(i:Int):=by omega
   have o:i=s.size:=by omega
   have y:Hid (((lz (byt s):Nat):Int)=4294967295 - (v:Int)):=by
    have r:=n.out;rw [o,List.take_of_length_le (by rw [p.out];omega)]at r;unfold Hid lz;rw [r,CJ v h];omega
   clear o;go_wp2_with fail
   go_ret;exact⟨by rw [y.out];rfl,rfl⟩
def RdG(w:World)(b:Nat)(s:ByteArray)(l:List Nat)(bad:Bool):Prop:=
 ∃ k:Nat,w.heap[b]?=some (.cells #[.string s,.int .i64 (k:Int),.bool bad] 180 (0,0))/\l=(byt s).drop k/\k<=s.size+3
theorem RdG.step{w w':World}{b:Nat}{s:ByteArray}{l:List Nat}{bad:Bool}(h:RdG w b s l bad)(e:w'.heap[b]?=w.heap[b]?):RdG w' b s l bad:=by
 obtain⟨k,a,c,d⟩:=h;exact⟨k,by rw [e];exact a,c,d⟩
theorem RdG.bad{w:World}{b:Nat}{s:ByteArray}{l:List Nat}{bad:Bool}(h:RdG w b s l bad):w.cell? ⟨b,2,none⟩=some (.bool bad):=by
 obtain⟨k,a,h2,h3⟩:=h;simp [World.cell?,a]
theorem sL{w:World}{b:Nat}{x0 x1 x2:Value}{t:TypeId}(h:w.heap[b]?=some (.cells #[x0,x1,x2] t (0,0))):w.cell? ⟨b,0,none⟩=some x0/\w.cell? ⟨b,1,none⟩=some x1/\w.cell? ⟨b,2,none⟩=some x2/\w.frozen? ⟨b,1,none⟩=false/\w.frozen? ⟨b,2,none⟩=false:=by
 simp [World.cell?,World.frozen?,h]
theorem jN(w:World)(b o:Nat)(v:Value):w.grownBy (w.setCell ⟨b,o,none⟩ v) (some b):=
 ⟨rfl,rfl,rfl,by simp,fun k _ hk=>Below.heap_setCell _ _ _ _ (fun e=>hk (by simp only at e;rw [e]))⟩
theorem Fc(w:World)(b:Nat)(s:ByteArray)(l:List Nat)(bad:Bool)(h:RdG w b s l bad)(hs:s.size<=9223372036854775000):
  Calls Tryz.prog 99 #[pt b] w fun e w'=>e= .returned (.int .u64 ((mp 10 1 0 l).1:Nat))/\RdG w' b s (mp 10 1 0 l).2.1 (bad || (mp 10 1 0 l).2.2)/\w.grownBy w' (some b):=by
 have B:=ij h;have F:pt b= .pointer (some ⟨b,0,none⟩):=rfl;rw [F];clear h F;go_enter Tryz.func99,Tryz.ntmps99
 go_wp2_with fail
 go_loopw [3,4,5] (fun vv uv kv w'=>∃ (k v u:Nat) (o:List Nat),k<=10/\v<18446744073709551616/\u<18446744073709551616/\kv= .int .i64 k/\vv= .int .u64 v/\uv= .int .u64 u/\Hid (RdG w' b s o bad/\mp (10 - k) u v o=mp 10 1 0 l/\w.grownBy w' (some b))) (fun _ _ kv _=>10 - (intOf kv).toNat)
 case atStart=>exact⟨0,0,1,l,by omega,by omega,by omega,rfl,rfl,rfl,⟨B.out,rfl,ir _ _⟩⟩
 case round=>
  clear B;obtain⟨k,v,u,o,hk,hv,hu,rfl,rfl,rfl,m⟩:=hrel;obtain⟨f,D⟩:∃ f,f=wr:=⟨_,rfl⟩;rw [<-D]at m ⊢;clear D;obtain⟨a,y,r,C⟩:=m.out.1;obtain⟨c0,c1,c2,f1,f2⟩:=sL y;have HB:=ij y;clear y;have qa:(a:Int)<=9223372036854775003:=by omega
  by_cases hk10:k<10
  ·have J:(k:Int)<10:=by omega
   obtain⟨j,G⟩:∃ j,10 - k=j+1:=⟨9 - k,by omega⟩;by_cases M:a<s.size
   ·have N:(a:Int)<s.size:=by omega
    have t2:(0:Int)<=(a:Int):=by omega
    have p:Hid (o=s[a].toNat::(byt s).drop (a+1)):=by
     unfold Hid;rw [r];have I:a<(byt s).length:=by rw [iS];exact M
     rw [List.drop_eq_getElem_cons I];congr 1
     simp [byt];rfl
    obtain⟨c,hc⟩:∃ c,s[a].toNat=c:=⟨_,rfl⟩;have hc256:c<256:=by rw [<-hc];exact UInt8.toNat_lt _
    rw [hc]at p;have hm:Int.tmod (c:Int) 128=((c % 128:Nat):Int):=by rw [Int.tmod_eq_emod_of_nonneg (by omega)];omega
    have A:Hid (∀ w2,jt w2 f->RdG (w2.setCell ⟨b,1,none⟩ (.int .i64 ((a:Int)+1))) b s ((byt s).drop (a+1)) bad/\w.grownBy (w2.setCell ⟨b,1,none⟩ (.int .i64 ((a:Int)+1))) (some b)):=fun w2 hl2=>by
     refine⟨⟨a+1,?_,rfl,by omega⟩,il (jg m.out.2.2 hl2) (jN _ _ _ _)⟩;rw [heap_setCell_same w2 b 1 _ _ _ (by rw [hl2.1];exact HB.out)];rfl
    have q:IntKind.u64.wrap ((v:Int)+IntKind.u64.wrap ((u:Int)*((c:Int) % 128)))=(((v+u*(c % 128)) % 18446744073709551616:Nat):Int):=by
     have i:(u:Int)*((c:Int) % 128)=((u*(c % 128):Nat):Int):=by push_cast;rfl
     rw [i,IntKind.wrap_u64,IntKind.wrap_u64];omega
    have x:IntKind.u64.wrap ((u:Int)*128)=((u*128 % 18446744073709551616:Nat):Int):=by
     rw [IntKind.wrap_u64];omega
    have d:=ij m.out.2.1;rw [G,p.out,mp]at d;have O:(v+u*(c % 128)) % 18446744073709551616<18446744073709551616:=Nat.mod_lt _ (by omega);have K:u*128 % 18446744073709551616<18446744073709551616:=Nat.mod_lt _ (by omega);generalize (v+u*(c % 128)) % 18446744073709551616=V at*;generalize u*128 % 18446744073709551616=U at*;by_cases E:c<128
    ·rw [if_pos E]at d;have L:(c:Int)<128:=by omega
     have z:=ij q;clear q x;go_upto_region 6 with fail
     go_quiet (fail)
     go_wp2_with fail
     go_quiet (fail)
     go_wp2_with fail
     go_ret;obtain⟨i,n⟩:=A.out _ (lf f _);refine⟨?_,?_,n⟩
     ·rw [<-d.out];simp only;rw [<-z.out];rfl
     ·rw [<-d.out];simp only [Bool.or_false];exact i
    ·rw [if_neg E]at d;have L:(128:Int)<=(c:Int):=by omega
     have z:=ij q;have H:=ij x;clear q x;go_upto_region 6 with fail
     go_quiet (fail)
     go_wp2_with fail
     go_quiet (fail)
     go_wp2_with fail
     go_roundw
     case rel=>
      obtain⟨i,n⟩:=A.out _ (lf f _);exact⟨k+1,V,U,(byt s).drop (a+1),by omega,O,K,by go_num,by rw [<-z.out],by rw [<-H.out],⟨i,by rw [show 10 - (k+1)=j by omega];exact d.out,n⟩⟩
     case measure=>simp [intOf];omega
   ·have N:(s.size:Int)<=(a:Int):=by omega
    have p:Hid (o=[]):=by unfold Hid;rw [r];exact List.drop_eq_nil_of_le (by rw [iS];omega)
    have t:Hid (∀ w2,jt w2 f->RdG (w2.setCell ⟨b,2,none⟩ (.bool true)) b s [] true/\w.grownBy (w2.setCell ⟨b,2,none⟩ (.bool true)) (some b)):=fun w2 hl2=>by
     refine⟨⟨a,?_,by rw [<-r,p.out],C⟩,il (jg m.out.2.2 hl2) (jN _ _ _ _)⟩;rw [heap_setCell_same w2 b 2 _ _ _ (by rw [hl2.1];exact HB.out)];rfl
    have d:=ij m.out.2.1;rw [G,p.out,mp]at d;go_upto_region 6 with fail
    go_quiet (fail)
    go_wp2_with fail
    go_ret;obtain⟨i,n⟩:=t.out _ (lf f _);refine⟨?_,?_,n⟩
    ·rw [<-d.out];rfl
    ·rw [<-d.out];simp only [Bool.or_true];exact i
  ·have J:(10:Int)<=(k:Int):=by omega
   have t:Hid (RdG (f.setCell ⟨b,2,none⟩ (.bool true)) b s o true/\w.grownBy (f.setCell ⟨b,2,none⟩ (.bool true)) (some b)):=by
    refine⟨⟨a,?_,r,C⟩,il m.out.2.2 (jN _ _ _ _)⟩;rw [heap_setCell_same f b 2 _ _ _ HB.out];rfl
   have d:=ij m.out.2.1;rw [show 10 - k=0 by omega,mp]at d;go_wp2_with fail
   go_ret;obtain⟨i,n⟩:=t.out;refine⟨?_,?_,n⟩
   ·rw [<-d.out];rfl
   ·rw [<-d.out];simp only [Bool.or_true];exact i
theorem nk(w:World)(b:Nat)(s:ByteArray)(l:List Nat)(bad:Bool)(c:Nat)(hmost:c<=1000)(h:RdG w b s l bad)(C:s.size<=9223372036854775000):
  Calls Tryz.prog 98 #[pt b,.int .i64 (c:Int)] w fun e w'=>e= .returned (.int .i64 ((iP c l).1:Nat))/\RdG w' b s (iP c l).2.1 (bad || (iP c l).2.2)/\w.grownBy w' (some b):=by
 have f:=ij (Fc w b s l bad h C);have n:pt b= .pointer (some ⟨b,0,none⟩):=rfl;rw [n]at f ⊢;clear h n;have u:=rW 10 1 0 l;go_enter Tryz.func98,Tryz.ntmps98
 go_wp2_with fail
 refine f.out.mono ?_;clear f;rintro e j ⟨rfl,k,o⟩;have p:=ij k;have t:=ij o;obtain⟨a,i,q,y⟩:=k;obtain⟨c0,c1,x,f1,f2⟩:=sL i;have HB:=ij i;clear i o;have qm:(c:Int)<=1000:=by omega
 have d:Hid (iP c l=if c<(mp 10 1 0 l).1 then (0,(mp 10 1 0 l).2.1,true) else mp 10 1 0 l):=rfl;generalize mp 10 1 0 l=X at*;obtain⟨v,r,bd⟩:=X;simp only at u q HB p d x ⊢;by_cases m:c<v
 ·have D:(c:Int)<(v:Int):=by omega
  rw [if_pos m]at d;have B:Hid (RdG (j.setCell ⟨b,2,none⟩ (.bool true)) b s r true/\w.grownBy (j.setCell ⟨b,2,none⟩ (.bool true)) (some b)):=by
   refine⟨⟨a,?_,q,y⟩,il t.out (jN _ _ _ _)⟩;rw [heap_setCell_same j b 2 _ _ _ HB.out];rfl
  go_wp2_with fail
  go_ret;rw [d.out];obtain⟨z,A⟩:=B.out;exact⟨rfl,by simp only [Bool.or_true];exact z,A⟩
 ·have D:(v:Int)<=(c:Int):=by omega
  rw [if_neg m]at d;go_wp2_with fail
  go_ret;rw [d.out];exact⟨rfl,p.out,t.out⟩
end
section
open Go.RowKit
structure GuS(W w:World)(b n5 n2 L:Nat)(s:ByteArray)(l:List Nat)(bad:Bool)(tv sv:Value)(v:Int × Int × Int)(p:List (List Ins))(sch:List Int):Prop where
 rd:RdG w b s l bad
 art:w.heap[n5]?=some (.cells #[tv,sv,.int .i64 v.1,.int .i64 v.2.1,.int .i64 v.2.2] 56 (0,0))
 res:w.heap[n2]?=some (.cells #[.slice none 0 0,.slice none 0 0,.int .i64 0,.int .i64 0,.int .i64 0] 56 (0,0))
 thr:ThrAt L w.heap.size w tv p
 row:w.ownsRow L 3 1 sv sch.length (iL sch)
 base:W.grownBy w none
 ord:W.heap.size<=n2/\n2<b/\b<n5/\L=n5+1
theorem ThrAt.same{L B:Nat}{w w':World}{tv:Value}{p:List (List Ins)}(h:ThrAt L B w tv p)(d:∀ k cs t,w.heap[k]?=some (.cells cs t (0,0))->t≠3->L<=k->w'.heap[k]?=w.heap[k]?):ThrAt L B w' tv p:=by
 obtain⟨rows,b,f,l,i⟩:=h;refine⟨rows,iM b (fun g e=>?_),f,fun j hj=>?_,i⟩
 ·rcases b.2 with ⟨a,_⟩ | ⟨g',cap,cur,hv,hlo,hh,_⟩
  ·rw [a]at e;cases e
  ·rw [hv]at e;simp only [Value.ownBlock,Option.some.injEq]at e;subst e;exact d _ _ _ hh (by decide) hlo
 ·obtain⟨rv,a,c,m⟩:=l j hj;refine⟨rv,a,iM c (fun g e=>?_),m⟩;rcases c.2 with ⟨e4,_⟩ | ⟨g',cap,cur,hv,hlo,hh,_⟩
  ·rw [e4]at e;cases e
  ·rw [hv]at e;simp only [Value.ownBlock,Option.some.injEq]at e;subst e;exact d _ _ _ hh (by decide) hlo
section
variable {W w w' w6 : World} {b n5 n2 L : Nat} {s : ByteArray} {l l' : List Nat} {bad bad' : Bool} {tv sv : Value} {v : Int × Int × Int} {p : List (List Ins)} {sch : List Int}
theorem GuS.lt(h:GuS W w b n5 n2 L s l bad tv sv v p sch):b<w.heap.size/\n5<w.heap.size/\n2<w.heap.size:=by
 obtain⟨k,a,_⟩:=h.rd;exact⟨(Array.getElem?_eq_some_iff.1 a).1,(Array.getElem?_eq_some_iff.1 h.art).1,(Array.getElem?_eq_some_iff.1 h.res).1⟩
theorem GuS.acell(h:GuS W w b n5 n2 L s l bad tv sv v p sch):w.cell? ⟨n5,0,none⟩=some tv/\w.cell? ⟨n5,1,none⟩=some sv/\w.cell? ⟨n5,2,none⟩=some (.int .i64 v.1)/\w.cell? ⟨n5,3,none⟩=some (.int .i64 v.2.1)/\w.cell? ⟨n5,4,none⟩=some (.int .i64 v.2.2)/\∀ o,w.frozen? ⟨n5,o,none⟩=false:=by
 simp [World.cell?,World.frozen?,h.art]
theorem GuS.rcell(h:GuS W w b n5 n2 L s l bad tv sv v p sch):∀ o,w.frozen? ⟨n2,o,none⟩=false:=by
 simp [World.frozen?,h.res]
theorem GuS.call(h:GuS W w b n5 n2 L s l bad tv sv v p sch)(c:RdG w' b s l' bad')(a:w.grownBy w' (some b)):GuS W w' b n5 n2 L s l' bad' tv sv v p sch:=by
 obtain⟨o1,o2,o3,o4⟩:=h.ord;refine⟨c,?_,?_,?_,?_,?_,h.ord⟩
 ·rw [a.block n5 h.lt.2.1 (by simp only [ne_eq,Option.some.injEq];omega)];exact h.art
 ·rw [a.block n2 h.lt.2.2 (by simp only [ne_eq,Option.some.injEq];omega)];exact h.res
 ·exact(h.thr.step a (fun q e=>by simp only [Option.some.injEq]at e;omega)).mono a.size
 ·exact kB h.row a (fun k e e2=>by simp only [Option.some.injEq]at e;have:=iA h.row k e2;omega)
 ·exact⟨a.os.trans h.base.os,a.tape.trans h.base.tape,a.output.trans h.base.output,Nat.le_trans h.base.size a.size,fun k hk _=>by
   rw [a.block k (Nat.lt_of_lt_of_le hk h.base.size) (fun e=>by simp only [Option.some.injEq]at e;omega)];exact h.base.block k hk (by simp)⟩
theorem GuS.like(h:GuS W w b n5 n2 L s l bad tv sv v p sch)(hl:jt w' w):GuS W w' b n5 n2 L s l bad tv sv v p sch:=
 h.call (h.rd.step (by rw [hl.1])) (iK hl)
theorem GuS.setA(h:GuS W w b n5 n2 L s l bad tv sv v p sch)(j:Nat)(x:Int)(a:Int × Int × Int)(d:(j=2/\a=(x,v.2.1,v.2.2))\/(j=3/\a=(v.1,x,v.2.2))\/(j=4/\a=(v.1,v.2.1,x))):GuS W (w.setCell ⟨n5,j,none⟩ (.int .i64 x)) b n5 n2 L s l bad tv sv a p sch:=by
 obtain⟨o1,o2,o3,o4⟩:=h.ord;have c:=jN w n5 j (.int .i64 x);refine⟨h.rd.step (Below.heap_setCell _ _ _ _ (by simp only;omega)),?_,?_,?_,?_,?_,h.ord⟩
 ·rw [heap_setCell_same w n5 j _ _ _ h.art];rcases d with ⟨rfl,rfl⟩ | ⟨rfl,rfl⟩ | ⟨rfl,rfl⟩<;>rfl
 ·rw [Below.heap_setCell _ _ _ _ (by simp only;omega)];exact h.res
 ·exact(h.thr.step c (fun q e=>by simp only [Option.some.injEq]at e;omega)).mono c.size
 ·exact kB h.row c (fun k e e2=>by simp only [Option.some.injEq]at e;have:=iA h.row k e2;omega)
 ·exact iF h.base (by omega)
theorem GuS.push(h:GuS W w b n5 n2 L s l bad tv sv v p sch){t:Int}{o:Obj}{g6 c6 N:Nat}(x:N=sch.length)
  (m:w6.ownsRow L 3 1 (.slice (some ⟨g6,0,none⟩) (N+1) c6) (N+1) (iL sch++[.int .i64 t]))
  (key:(sv.ownBlock=some g6/\(w.alloc o).grownBy w6 (some g6))\/(g6=w.heap.size+1/\(w.alloc o).grownBy w6 none)):
  (w6.cell? ⟨n5,1,none⟩=some sv/\w6.frozen? ⟨n5,1,none⟩=false)/\GuS W (w6.setCell ⟨n5,1,none⟩ (.slice (some ⟨g6,0,none⟩) (N+1) c6)) b n5 n2 L s l bad tv (.slice (some ⟨g6,0,none⟩) (N+1) c6) v p (sch++[t]):=by
 subst x;obtain⟨o1,o2,o3,o4⟩:=h.ord;have hL6:L<=g6:=iA m g6 rfl;have j:w.heap.size<=w6.heap.size:=by
  rcases key with ⟨_,hg⟩ | ⟨_,hg⟩<;>(have:=hg.size;simp at this;omega)
 have c:∀ k,k<w.heap.size->k≠g6->w6.heap[k]?=w.heap[k]?:=fun k hk hne=>by
  rcases key with ⟨_,hg⟩ | ⟨_,hg⟩
  ·rw [hg.block k (by simp;omega) (by simpa using hne),Below.heap_alloc _ _ _ hk]
  ·rw [hg.block k (by simp;omega) (by simp),Below.heap_alloc _ _ _ hk]
 have i:w6.heap[n5]?=some (.cells #[tv,sv,.int .i64 v.1,.int .i64 v.2.1,.int .i64 v.2.2] 56 (0,0)):=by rw [c n5 h.lt.2.1 (by omega)];exact h.art
 have u:W.grownBy w6 none:=by
  rcases key with ⟨_,hg⟩ | ⟨_,hg⟩
  ·exact⟨hg.os.trans h.base.os,hg.tape.trans h.base.tape,hg.output.trans h.base.output,Nat.le_trans h.base.size j,fun k hk _=>by
    rw [c k (Nat.lt_of_lt_of_le hk h.base.size) (by omega)];exact h.base.block k hk (by simp)⟩
  ·exact il h.base (il (iq (ir _ _)) hg)
 have y:ThrAt L w6.heap.size w6 tv p:=by
  refine(h.thr.same (fun k cs ty hk hty hlo=>c k (Array.getElem?_eq_some_iff.1 hk).1 (fun e=>?_))).mono j;subst e;rcases key with ⟨e,hg⟩ | ⟨e,hg⟩
  ·rcases h.row.2 with ⟨e4,_⟩ | ⟨g',cap,cur,hv,_,hh,_⟩
   ·rw [e4]at e;cases e
   ·rw [hv]at e;simp only [Value.ownBlock,Option.some.injEq]at e;subst e;rw [hh]at hk;simp only [Option.some.injEq,Obj.cells.injEq]at hk;exact hty hk.2.1.symm
  ·have:=(Array.getElem?_eq_some_iff.1 hk).1;omega
 have d:=jN w6 n5 1 (.slice (some ⟨g6,0,none⟩) (sch.length+1) c6);refine⟨⟨by simp [World.cell?,i],by simp [World.frozen?,i]⟩,⟨?_,?_,?_,?_,?_,?_,h.ord⟩⟩
 ·refine(h.rd.step (c b h.lt.1 (by omega))).step (Below.heap_setCell _ _ _ _ (by simp only;omega))
 ·rw [heap_setCell_same w6 n5 1 _ _ _ i];rfl
 ·rw [Below.heap_setCell _ _ _ _ (by simp only;omega),c n2 h.lt.2.2 (by omega)];exact h.res
 ·exact(y.step d (fun q e=>by simp only [Option.some.injEq]at e;omega)).mono d.size
 ·have n:=kB m d (fun k e f=>by simp only [Option.some.injEq]at e;simp only [Value.ownBlock,Option.some.injEq]at f;omega);have r:(sch++[t]).length=sch.length+1:=by simp
  have f:iL (sch++[t])=iL sch++[.int .i64 t]:=by simp [iL]
  rw [r,f];exact n
 ·exact iF u (by omega)
end
end
section
open Go.RowKit
attribute [local go_sem] Go.World.cell?_alloc_some
def sf(e:Ending):Prop:=e= .panicked [{ v:= .iface 174 (.int .i64 3),recovered:=false}]
theorem j4(w:World):Calls Tryz.prog 141 #[.bool true] w fun e w'=>(∃ v,e= .returned v)/\w'=w:=by
 go_enter Tryz.func141,Tryz.ntmps141
 go_wp2_with fail
 go_end0
 exact⟨⟨_,rfl⟩,rfl⟩
theorem jK(w:World):Calls Tryz.prog 141 #[.bool false] w fun e w'=>sf e/\w'=w:=by
 go_enter Tryz.func141,Tryz.ntmps141
 go_wp2_with fail
 exact⟨rfl,rfl,rfl⟩
structure RdS(W:World)(w:World)(b:Nat)(s:ByteArray)(k:Nat):Prop where
 blk:w.heap[b]?=some (.cells #[.string s,.int .i64 k] 176 (0,0))
 base:W.grownBy w (some b)
 le:k<=s.size
theorem RdS.c0{W w:World}{b k:Nat}{s:ByteArray}(h:RdS W w b s k):w.cell? ⟨b,0,none⟩=some (.string s):=by have:=h.blk;simp [World.cell?,this]
theorem RdS.c1{W w:World}{b k:Nat}{s:ByteArray}(h:RdS W w b s k):w.cell? ⟨b,1,none⟩=some (.int .i64 k):=by have:=h.blk;simp [World.cell?,this]
theorem RdS.z1{W w:World}{b k:Nat}{s:ByteArray}(h:RdS W w b s k):w.frozen? ⟨b,1,none⟩=false:=by have:=h.blk;simp [World.frozen?,this]
theorem RdS.lt{W w:World}{b k:Nat}{s:ByteArray}(h:RdS W w b s k):b<w.heap.size:=(Array.getElem?_eq_some_iff.1 h.blk).1
theorem RdS.grown{W w w':World}{b k:Nat}{s:ByteArray}(h:RdS W w b s k)(hg:w.grownBy w' none):RdS W w' b s k:=
 ⟨by rw [hg.block b h.lt (by simp)];exact h.blk,il h.base (lP hg),h.le⟩
theorem RdS.self{W w:World}{b k:Nat}{s:ByteArray}(h:RdS W w b s k):RdS w w b s k:=⟨h.blk,ir _ _,h.le⟩
theorem RdS.trans{W w w':World}{b k k':Nat}{s:ByteArray}(h:RdS W w b s k)(h':RdS w w' b s k'):RdS W w' b s k':=⟨h'.blk,il h.base h'.base,h'.le⟩
theorem RdS.step{W w:World}{b k:Nat}{s:ByteArray}(h:RdS W w b s k)(hk:k<s.size):RdS W (w.setCell ⟨b,1,none⟩ (.int .i64 ((k+1:Nat):Int))) b s (k+1):=
 ⟨by rw [heap_setCell_same _ b 1 _ _ _ h.blk];rfl,il h.base iV,hk⟩
def Rd{α:Type}(W:World)(b:Nat)(s:ByteArray)(V:World->α->Value->Prop)(res:Option (α × List Nat))(e:Ending)(w':World):Prop:=
 (res=none/\sf e/\W.grownBy w' (some b))\/∃ x r v k,res=some (x,r)/\e= .returned v/\V w' x v/\RdS W w' b s k/\(byt s).drop k=r
def CQ(l:List Nat):Option (Nat × List Nat):=match l with
 | []=>none
 | x::r=>some (x,r)
theorem Bw(W w:World)(b k:Nat)(s:ByteArray)(h:RdS W w b s k)(hs:s.size<=9223372036854775806):
  Calls Tryz.prog 171 #[pt b] w (Rd W b s (fun _ x v=>v= .int .u8 ((x:Nat):Int)) (CQ ((byt s).drop k))):=by
 have c0:=h.c0;have c1:=h.c1;have z1:=h.z1;have hle:=h.le;have c:=ij h;clear h;unfold pt;by_cases d:k<s.size
 ·have j:(k:Int)<s.size:=by omega
  have q2:wrap64 ((k:Int)+1)=((k+1:Nat):Int):=by simp [wrap64];omega
  go_enter Tryz.func171,Tryz.ntmps171
  go_wp2_with fail
  go_still_tail 10,(by kernel_rfl)
  go_wp2_with (go_at_call 141;refine(j4 _).mono ?_;rintro e l ⟨⟨v,rfl⟩,rfl⟩)
  have a:=c.out.step d;have f:((k:Int)+1)=((k+1:Nat):Int):=by omega
  rw [f];have i:=ij a;generalize w.setCell ⟨b,1,none⟩ (.int .i64 ((k+1:Nat):Int))=w6 at i a ⊢;have d0:=a.c0;have d1:=a.c1;clear a c0 c1 z1 f c;have HB:=ij (lp s k d);go_quiet (fail)
  go_wp2_with fail
  go_ret;refine Or.inr ⟨s[k].toNat,(byt s).drop (k+1),_,k+1,?_,rfl,?_,?_,rfl⟩
  ·rw [HB.out];rfl
  ·rfl
  ·exact i.out.grown (iX _ (iy (ir _ _)))
 ·have j:¬(k:Int)<s.size:=by omega
  go_enter Tryz.func171,Tryz.ntmps171
  go_wp2_with fail
  go_still_tail 10,(by kernel_rfl)
  go_wp2_with (go_at_call 141;refine(jK _).mono ?_;rintro e l ⟨rfl,rfl⟩)
  refine⟨rfl,Or.inl ⟨?_,rfl,iy c.out.base⟩⟩;have e:(byt s).drop k=[]:=List.drop_eq_nil_iff.2 (by rw [iS];omega);rw [e];rfl
theorem CS(s:ByteArray){i j:Nat}(hi:i<=s.size)(hj:j<=s.size)(h:(byt s).drop i=(byt s).drop j):i=j:=by
 have:=congrArg List.length h;simp only [List.length_drop,iS]at this;omega
theorem nB(W w:World)(b k:Nat)(s:ByteArray)(h:RdS W w b s k)(f:s.size<=9223372036854775806)(c:k<s.size):
  Calls Tryz.prog 171 #[pt b] w fun e w'=>e= .returned (.int .u8 ((s[k].toNat:Nat):Int))/\RdS W w' b s (k+1):=by
 refine(Bw W w b k s h f).mono ?_;rintro e w' (⟨a,_⟩ | ⟨x,r,v,k',a,rfl,rfl,d,i⟩)
 ·rw [lp s k c]at a;cases a
 ·rw [lp s k c]at a;simp only [CQ,Option.some.injEq,Prod.mk.injEq]at a;obtain⟨rfl,rfl⟩:=a;have:=CS s d.le (show k+1<=s.size from c) i;subst this;exact⟨rfl,d⟩
theorem nG(W w:World)(b k:Nat)(s:ByteArray)(h:RdS W w b s k)(f:s.size<=9223372036854775806)(hk:¬k<s.size):
  Calls Tryz.prog 171 #[pt b] w fun e w'=>sf e/\W.grownBy w' (some b):=by
 have i:(byt s).drop k=[]:=List.drop_eq_nil_iff.2 (by rw [iS];omega);refine(Bw W w b k s h f).mono ?_;rintro e w' (⟨_,c,d⟩ | ⟨x,r,v,k',a,rfl,rfl,c,d⟩)
 ·exact⟨c,d⟩
 ·rw [i]at a;cases a
theorem qO(x place:Nat):((x:Int) % 128*2 ^ place)=((x % 128*2 ^ place:Nat):Int):=by push_cast;rfl
theorem rm(m:Nat):IntKind.u64.wrap (m:Int)=((m % 18446744073709551616:Nat):Int):=by
 simp only [IntKind.wrap,IntKind.signed,IntKind.bits];simp
theorem Cu(x a:Nat)(h:x % 128*2 ^ a<18446744073709551616):(IntKind.u64.wrap ((x:Int) % 128*2 ^ a) / 2 ^ a==(x:Int) % 128)=true:=by
 rw [qO,rm,Nat.mod_eq_of_lt h];have e:((2:Int) ^ a)=((2 ^ a:Nat):Int):=by push_cast;rfl
 rw [e,<-Int.natCast_ediv,Nat.mul_div_cancel _ (Nat.two_pow_pos a)];simp
theorem E3(x a:Nat)(h:¬x % 128*2 ^ a<18446744073709551616)(_hp:a<64):(IntKind.u64.wrap ((x:Int) % 128*2 ^ a) / 2 ^ a==(x:Int) % 128)=false:=by
 rw [qO,rm];have e:((2:Int) ^ a)=((2 ^ a:Nat):Int):=by push_cast;rfl
 rw [e,<-Int.natCast_ediv];have c:x % 128*2 ^ a % 18446744073709551616 / 2 ^ a≠x % 128:=by
  intro b;have h3:x % 128*2 ^ a<=x % 128*2 ^ a % 18446744073709551616:=by
   have:=Nat.div_mul_le_self (x % 128*2 ^ a % 18446744073709551616) (2 ^ a);rw [b]at this;exact this
  have:=Nat.mod_lt (x % 128*2 ^ a) (show 0<18446744073709551616 by decide);omega
 rw [beq_eq_false_iff_ne];intro b;apply c;have:((x:Int) % 128)=((x % 128:Nat):Int):=by push_cast;rfl
 rw [this]at b;exact_mod_cast b
theorem sW(n x a:Nat)(hn:n<2 ^ a)(h:x % 128*2 ^ a<18446744073709551616)(hp:a<64):n+x % 128*2 ^ a<18446744073709551616/\n+x % 128*2 ^ a<2 ^ (a+7):=by
 constructor
 ·have e:18446744073709551616=2 ^ (64 - a)*2 ^ a:=by rw [<-Nat.pow_add,show 64 - a+a=64 by omega]
  rw [e]at h ⊢;have b:x % 128<2 ^ (64 - a):=Nat.lt_of_mul_lt_mul_right h;have c:(x % 128+1)*2 ^ a<=2 ^ (64 - a)*2 ^ a:=Nat.mul_le_mul_right _ b;rw [Nat.add_mul,Nat.one_mul]at c;omega
 ·have b:2 ^ (a+7)=128*2 ^ a:=by rw [Nat.pow_add,Nat.mul_comm]
  have c:x % 128*2 ^ a<=127*2 ^ a:=Nat.mul_le_mul_right _ (by omega);omega
theorem DL(n x a:Nat)(b:n<2 ^ a)(h:x % 128*2 ^ a<18446744073709551616)(c:a<64):bits .or .u64 (n:Int) (IntKind.u64.wrap ((x:Int) % 128*2 ^ a))=((n+x % 128*2 ^ a:Nat):Int):=by
 have h64:=(sW n x a b h c).1;rw [qO,rm,Nat.mod_eq_of_lt h,u64_or_nat _ _ (by omega) h,Nat.or_comm,nat_join a _ _ (Nat.mul_mod_left _ _) b,Nat.add_comm]
theorem wT(W w:World)(b k:Nat)(s:ByteArray)(h:RdS W w b s k)(y:s.size<=9223372036854775806):
  Calls Tryz.prog 187 #[pt b] w (Rd W b s (fun _ x v=>v= .int .u64 ((x:Nat):Int)) (rdN 0 0 ((byt s).drop k))):=by
 have N:=ij h;have D:pt b= .pointer (some ⟨b,0,none⟩):=rfl;rw [D];clear h D;go_enter Tryz.func187,Tryz.ntmps187
 go_wp2_with fail
 go_loopw [3,4] (fun nv pv w'=>∃ (n a d:Nat),nv= .int .u64 n/\pv= .int .i64 a/\a<=70/\n<2 ^ a/\Hid (RdS W w' b s d)/\Hid (rdN a n ((byt s).drop d)=rdN 0 0 ((byt s).drop k))) (fun _ pv _=>71 - (intOf pv).toNat)
 case atStart=>exact⟨0,0,k,rfl,rfl,by omega,by simp,N,ij rfl⟩
 case round=>
  obtain⟨n,a,d,rfl,rfl,hpl,A,z,m⟩:=hrel;obtain⟨q,J⟩:∃ q,q=wr:=⟨_,rfl⟩;subst J;by_cases u:d<s.size
  ·have HB:=ij (lp s d u);have hb:=s[d].toNat_lt;have i:=ij (nB W q b d s z.out y u);generalize s[d].toNat=x at*;have hand:bits .and .u8 (x:Int) 127=((x % 128:Nat):Int):=by
    have:=u8_and_nat x 127 (by omega) (by decide);rw [nat_mask7]at this;exact this
   have hx8:x<256:=by omega
   by_cases o:a<64
   ·have L:(a:Int)<64:=by omega
    by_cases j:x % 128*2 ^ a<18446744073709551616
    ·have E:=Cu x a j;have hor:=DL n x a A j o;have F:=ij (sW n x a A j o);by_cases C:x<128
     ·have K:(x:Int)<128:=by omega
      have p:Hid (rdN 0 0 ((byt s).drop k)=if 0<x\/a=0 then some (n+x % 128*2 ^ a,(byt s).drop (d+1)) else none):=by
       unfold Hid;rw [<-m.out,HB.out,rdN,if_pos ⟨o,j⟩,if_pos C]
      clear m;by_cases B:0<x
      ·have I:(0:Int)<(x:Int):=by omega
       go_wp2_with (first | (go_at_call 171;refine i.out.mono ?_;rintro e w6 ⟨rfl,c⟩;have f:=ij c;clear c) | (go_at_call 141;refine(j4 _).mono ?_;rintro e l ⟨⟨t,rfl⟩,rfl⟩))
       go_ret;exact Or.inr ⟨n+x % 128*2 ^ a,(byt s).drop (d+1),_,d+1,by rw [p.out,if_pos (Or.inl B)],rfl,rfl,f.out,rfl⟩
      ·have I:¬(0:Int)<(x:Int):=by omega
       by_cases r:a=0
       ·have H:((a:Int)==0)=true:=by simp;omega
        have G:Hid (rdN 0 0 ((byt s).drop k)=some (n+x % 128*2 ^ a,(byt s).drop (d+1))):=by
         unfold Hid;rw [p.out,if_pos (Or.inr r)]
        clear r;go_wp2_with (first | (go_at_call 171;refine i.out.mono ?_;rintro e w6 ⟨rfl,c⟩;have f:=ij c;clear c) | (go_at_call 141;first | (refine(j4 _).mono ?_;rintro e l ⟨⟨t,rfl⟩,rfl⟩) | (refine(jK _).mono ?_;rintro e l ⟨rfl,rfl⟩)))
        go_ret;exact Or.inr ⟨n+x % 128*2 ^ a,(byt s).drop (d+1),_,d+1,G.out,rfl,rfl,f.out,rfl⟩
       ·have H:((a:Int)==0)=false:=by simp;omega
        go_wp2_with (first | (go_at_call 171;refine i.out.mono ?_;rintro e w6 ⟨rfl,c⟩;have f:=ij c;clear c) | (go_at_call 141;first | (refine(j4 _).mono ?_;rintro e l ⟨⟨t,rfl⟩,rfl⟩) | (refine(jK _).mono ?_;rintro e l ⟨rfl,rfl⟩)))
        refine⟨rfl,Or.inl ⟨?_,rfl,f.out.base⟩⟩;rw [p.out,if_neg (fun h=>h.elim B r)]
     ·have K:¬(x:Int)<128:=by omega
      have p:Hid (rdN (a+7) (n+x % 128*2 ^ a) ((byt s).drop (d+1))=rdN 0 0 ((byt s).drop k)):=by
       unfold Hid;rw [<-m.out,HB.out,rdN,if_pos ⟨o,j⟩,if_neg C]
      clear m;go_wp2_with (first | (go_at_call 171;refine i.out.mono ?_;rintro e w6 ⟨rfl,c⟩;have f:=ij c;clear c) | (go_at_call 141;refine(j4 _).mono ?_;rintro e l ⟨⟨t,rfl⟩,rfl⟩))
      go_roundw
      case rel=>exact⟨n+x % 128*2 ^ a,a+7,d+1,rfl,by first | rfl | (congr 1),by omega,F.out.2,f,p⟩
      case measure=>simp [intOf];omega
    ·have E:=E3 x a j o;go_wp2_with (first | (go_at_call 171;refine i.out.mono ?_;rintro e w6 ⟨rfl,c⟩;have f:=ij c;clear c) | (go_at_call 141;refine(jK _).mono ?_;rintro e l ⟨rfl,rfl⟩))
     refine⟨rfl,Or.inl ⟨?_,rfl,f.out.base⟩⟩;rw [<-m.out,HB.out,rdN,if_neg (fun h=>j h.2)]
   ·have L:¬(a:Int)<64:=by omega
    go_wp2_with (first | (go_at_call 171;refine i.out.mono ?_;rintro e w6 ⟨rfl,c⟩;have f:=ij c;clear c) | (go_at_call 141;refine(jK _).mono ?_;rintro e l ⟨rfl,rfl⟩))
    refine⟨rfl,Or.inl ⟨?_,rfl,f.out.base⟩⟩;rw [<-m.out,HB.out,rdN,if_neg (fun h=>o h.1)]
  ·have i:=ij (nG W q b d s z.out y u);have M:Hid ((byt s).drop d=[]):=List.drop_eq_nil_iff.2 (by rw [iS];omega);go_wp2_with (go_at_call 171;refine i.out.mono ?_;rintro e w6 ⟨rfl,c⟩)
   refine⟨rfl,Or.inl ⟨?_,rfl,c⟩⟩;rw [<-m.out,M.out,rdN]
theorem Fy(l:List Nat):∀ (c a x:Nat) (r:List Nat),a<2 ^ c->rdN c a l=some (x,r)->x<18446744073709551616:=by
 induction l with
 | nil=>intro c a x r _ h;cases h
 | cons b l ih=>
  intro c a x r e h;rw [rdN]at h;split at h
  ·rename_i h1
   have d:=sW a b c e h1.2 h1.1;split at h
   ·split at h
    ·simp only [Option.some.injEq,Prod.mk.injEq]at h;rw [<-h.1];exact d.1
    ·cases h
   ·exact ih _ _ _ _ d.2 h
  ·cases h
theorem ny(W w:World)(b k:Nat)(s:ByteArray)(h:RdS W w b s k)(o:s.size<=9223372036854775806):
  Calls Tryz.prog 175 #[pt b] w (Rd W b s (fun _ x v=>v= .int .i64 x) (jr ((byt s).drop k))):=by
 have m:=ij (wT W w b k s h o);have p:pt b= .pointer (some ⟨b,0,none⟩):=rfl;rw [p]at*;clear h;go_enter Tryz.func175,Tryz.ntmps175
 go_wp2_with fail
 refine m.out.mono ?_;rintro e w1 (⟨a,rfl,q⟩ | ⟨n,r,v,k1,a,rfl,rfl,f,d⟩)
 ·have c:Hid (jr ((byt s).drop k)=none):=by unfold Hid jr;rw [a]
  clear a;go_wp2_with fail
  exact⟨rfl,Or.inl ⟨c.out,rfl,q⟩⟩
 ·have j:=ij f;have t:=ij d;by_cases i:n<=9223372036854775807
  ·have c:Hid (jr ((byt s).drop k)=some ((n:Int),r)):=by unfold Hid jr;rw [a];simp only;rw [if_pos i]
   have q1:(n:Int)<=9223372036854775807:=by omega
   clear a f d;go_wp2_with (go_at_call 141;refine(j4 _).mono ?_;rintro e l ⟨⟨v7,rfl⟩,rfl⟩)
   go_ret;exact Or.inr ⟨(n:Int),r,_,k1,c.out,rfl,rfl,j.out,t.out⟩
  ·have c:Hid (jr ((byt s).drop k)=none):=by unfold Hid jr;rw [a];simp only;rw [if_neg i]
   have qd:decide ((n:Int)<=9223372036854775807)=false:=by simp;omega
   clear a f d;go_wp2_with (go_at_call 141;refine(jK _).mono ?_;rintro e l ⟨rfl,rfl⟩)
   exact⟨rfl,Or.inl ⟨c.out,rfl,j.out.base⟩⟩
theorem Eb(n:Nat)(hn:n<18446744073709551616)(h:n % 2=1):wrap64 (bits .xor .u64 IntKind.u64.max ((n:Int) / 2))=zag n:=by
 have a:IntKind.u64.max=((18446744073709551615:Nat):Int):=rfl;have e:((n:Int) / 2)=((n / 2:Nat):Int):=by omega
 rw [e,a,u64_xor_nat _ _ (by decide) (by omega)];have:=xJ 64 (n / 2) (by omega);have b:(2:Nat) ^ 64 - 1=18446744073709551615:=by decide
 rw [b]at this;rw [this];unfold zag;rw [if_pos h];simp only [wrap64];omega
theorem CW(W w:World)(b k:Nat)(s:ByteArray)(h:RdS W w b s k)(t:s.size<=9223372036854775806):
  Calls Tryz.prog 193 #[pt b] w (Rd W b s (fun _ x v=>v= .int .i64 x) (kU ((byt s).drop k))):=by
 have p:=ij (wT W w b k s h t);have u:pt b= .pointer (some ⟨b,0,none⟩):=rfl;rw [u]at*;clear h;go_enter Tryz.func193,Tryz.ntmps193
 go_wp2_with fail
 refine p.out.mono ?_;rintro e w1 (⟨a,rfl,z⟩ | ⟨n,r,v,k1,a,rfl,rfl,l,j⟩)
 ·have c:Hid (kU ((byt s).drop k)=none):=by unfold Hid kU;rw [a]
  clear a;go_wp2_with fail
  exact⟨rfl,Or.inl ⟨c.out,rfl,z⟩⟩
 ·have m:=ij l;have o:=ij j;have i:=Fy _ 0 0 n r (by simp) a;have c:Hid (kU ((byt s).drop k)=some (zag n,r)):=by unfold Hid kU;rw [a]
  clear a l j;have f:bits .and .u64 (n:Int) 1=((n % 2:Nat):Int):=by
   have:=u64_and_nat n 1 i (by decide);rw [nat_mask1]at this;exact this
  by_cases d:n % 2=1
  ·rw [d]at f;have y:=Eb n i d;go_wp2_with fail
   go_ret;exact Or.inr ⟨zag n,r,_,k1,c.out,rfl,by first | rfl | (rw [<-y];rfl),m.out,o.out⟩
  ·have q:n % 2=0:=by omega
   rw [q]at f;have A:Hid (zag n=((n / 2:Nat):Int)):=by unfold Hid zag;rw [if_neg d]
   go_wp2_with fail
   go_ret;exact Or.inr ⟨zag n,r,_,k1,c.out,rfl,by rw [A.out];rfl,m.out,o.out⟩
theorem vH(W w:World)(b k:Nat)(s:ByteArray)(h:RdS W w b s k)(p:s.size<=9223372036854775806)(m:Int):
  Calls Tryz.prog 172 #[pt b,.int .i64 m] w (Rd W b s (fun _ x v=>v= .int .i64 x) (kK m ((byt s).drop k))):=by
 have o:=ij (ny W w b k s h p);have q:pt b= .pointer (some ⟨b,0,none⟩):=rfl;rw [q]at*;clear h;go_enter Tryz.func172,Tryz.ntmps172
 go_wp2_with fail
 refine o.out.mono ?_;rintro e w1 (⟨a,rfl,t⟩ | ⟨n,r,v,k1,a,rfl,rfl,f,d⟩)
 ·have c:Hid (kK m ((byt s).drop k)=none):=by unfold Hid kK;rw [a]
  clear a;go_wp2_with fail
  exact⟨rfl,Or.inl ⟨c.out,rfl,t⟩⟩
 ·have j:=ij f;have u:=ij d;by_cases i:n<=m
  ·have c:Hid (kK m ((byt s).drop k)=some (n,r)):=by unfold Hid kK;rw [a];simp only;rw [if_pos i]
   clear a f d;go_wp2_with (go_at_call 141;refine(j4 _).mono ?_;rintro e l ⟨⟨v7,rfl⟩,rfl⟩)
   go_ret;exact Or.inr ⟨n,r,_,k1,c.out,rfl,rfl,j.out,u.out⟩
  ·have c:Hid (kK m ((byt s).drop k)=none):=by unfold Hid kK;rw [a];simp only;rw [if_neg i]
   have qd:decide (n<=m)=false:=by simp;omega
   clear a f d;go_wp2_with (go_at_call 141;refine(jK _).mono ?_;rintro e l ⟨rfl,rfl⟩)
   exact⟨rfl,Or.inl ⟨c.out,rfl,j.out.base⟩⟩
structure InS(W w:World)(b:Nat)(s:ByteArray)(k T c d:Nat)(vs us:Array Value):Prop where
 rd:RdS W w b s k
 var:w.heap[c]?=some (.cells vs T (0,0))
 res:w.heap[d]?=some (.cells us T (0,0))
 cb:c≠b
 db:d≠b
 cd:c≠d
 lc:W.heap.size<=c
 ld:W.heap.size<=d
theorem InS.call{W w w':World}{b k k' T c d:Nat}{s:ByteArray}{vs us:Array Value}(h:InS W w b s k T c d vs us)(h':RdS w w' b s k'):InS W w' b s k' T c d vs us:=
 ⟨h.rd.trans h',by rw [h'.base.block c (Array.getElem?_eq_some_iff.1 h.var).1 (by simpa using h.cb)];exact h.var,
  by rw [h'.base.block d (Array.getElem?_eq_some_iff.1 h.res).1 (by simpa using h.db)];exact h.res,h.cb,h.db,h.cd,h.lc,h.ld⟩
theorem InS.cell{W w:World}{b k T c d:Nat}{s:ByteArray}{a e:Array Value}(h:InS W w b s k T c d a e)(o:Nat):w.cell? ⟨c,o,none⟩=a[o]?:=by
 have:=h.var;simp [World.cell?,this]
theorem InS.free{W w:World}{b k T c d:Nat}{s:ByteArray}{e a:Array Value}(h:InS W w b s k T c d e a)(o:Nat):w.frozen? ⟨c,o,none⟩=false:=by
 have:=h.var;simp [World.frozen?,this]
theorem InS.rcell{W w:World}{b k T c d:Nat}{s:ByteArray}{e a:Array Value}(h:InS W w b s k T c d e a)(o:Nat):w.cell? ⟨d,o,none⟩=a[o]?:=by
 have:=h.res;simp [World.cell?,this]
theorem InS.rfree{W w:World}{b k T c d:Nat}{s:ByteArray}{e a:Array Value}(h:InS W w b s k T c d e a)(o:Nat):w.frozen? ⟨d,o,none⟩=false:=by
 have:=h.res;simp [World.frozen?,this]
theorem InS.set{W w:World}{b k T c d:Nat}{s:ByteArray}{e a:Array Value}(h:InS W w b s k T c d e a)(o:Nat)(v:Value):InS W (w.setCell ⟨c,o,none⟩ v) b s k T c d (e.setIfInBounds o v) a:=by
 refine⟨⟨?_,iF h.rd.base h.lc,h.rd.le⟩,?_,?_,h.cb,h.db,h.cd,h.lc,h.ld⟩
 ·rw [heap_setCell_other _ _ _ _ (Ne.symm h.cb)];exact h.rd.blk
 ·rw [heap_setCell_same _ c o _ _ _ h.var]
 ·rw [heap_setCell_other _ _ _ _ (Ne.symm h.cd)];exact h.res
theorem InS.rset{W w:World}{b k T c d:Nat}{s:ByteArray}{e a:Array Value}(h:InS W w b s k T c d e a)(o:Nat)(v:Value):InS W (w.setCell ⟨d,o,none⟩ v) b s k T c d e (a.setIfInBounds o v):=by
 refine⟨⟨?_,iF h.rd.base h.ld,h.rd.le⟩,?_,?_,h.cb,h.db,h.cd,h.lc,h.ld⟩
 ·rw [heap_setCell_other _ _ _ _ (Ne.symm h.db)];exact h.rd.blk
 ·rw [heap_setCell_other _ _ _ _ h.cd];exact h.var
 ·rw [heap_setCell_same _ d o _ _ _ h.res]
theorem InS.start{W w:World}{b k T:Nat}{s:ByteArray}(h:RdS W w b s k)(a c:Array Value):InS W ((w.alloc (.cells a T)).alloc (.cells c T)) b s k T (w.heap.size+1) w.heap.size c a:=by
 have hb:=h.lt;have d:=h.base.size;refine⟨h.grown (iq (iq (ir _ _))),?_,?_,by omega,by omega,by omega,by omega,d⟩
 ·have:=heap_alloc_new (w.alloc (.cells a T)) (.cells c T);simpa using this
 ·rw [Below.heap_alloc _ _ _ (by simp)];exact heap_alloc_new _ _
def F7(i:Ins):Value:= .agg #[.int .i64 i.op,.int .i64 i.a,.int .i64 i.b,.int .i64 i.n]
theorem F2(W w:World)(b k:Nat)(s:ByteArray)(h:RdS W w b s k)(A:s.size<=9223372036854775806):
  Calls Tryz.prog 186 #[pt b] w (Rd W b s (fun _ x v=>v=F7 x) (lY ((byt s).drop k))):=by
 have V:=ij h;have U:pt b= .pointer (some ⟨b,0,none⟩):=rfl;rw [U]at*;clear h;go_enter Tryz.func186,Tryz.ntmps186
 go_wp2_with fail
 have u:=InS.start (T:=65) V.out #[.int .i64 0,.int .i64 0,.int .i64 0,.int .i64 0] #[.int .i64 0,.int .i64 0,.int .i64 0,.int .i64 0];generalize (w.alloc (.cells #[.int .i64 0,.int .i64 0,.int .i64 0,.int .i64 0] 65)).alloc (.cells #[.int .i64 0,.int .i64 0,.int .i64 0,.int .i64 0] 65)=w1 at u ⊢;refine(ny w1 w1 b k s u.rd.self A).mono ?_;rintro e x1 (⟨d,rfl,l⟩ | ⟨o,y,v,k1,d,rfl,rfl,j,rfl⟩)
 ·have m:Hid (lY ((byt s).drop k)=none):=by unfold Hid lY;rw [d]
  have p:=ij (il u.rd.base l);clear d l u;go_wp2_with fail
  exact⟨rfl,Or.inl ⟨m.out,rfl,p.out⟩⟩
 have z:=ij d;have I:=u.call j;have f:=ij I;have c1:x1.cell? ⟨w.heap.size+1,0,none⟩=some (.int .i64 0):=by simpa using I.cell 0
 have f1:=I.free 0;clear u I j d;go_wp2_with fail
 have r:=f.out.set 0 (.int .i64 o);generalize x1.setCell ⟨w.heap.size+1,0,none⟩ (.int .i64 o)=y1 at r ⊢;clear f c1 f1;refine(ny y1 y1 b k1 s r.rd.self A).mono ?_;rintro e x2 (⟨d,rfl,l⟩ | ⟨a,y,v,k2,d,rfl,rfl,j,rfl⟩)
 ·have m:Hid (lY ((byt s).drop k)=none):=by unfold Hid lY;rw [z.out];simp only;rw [d]
  have p:=ij (il r.rd.base l);clear d l r;go_wp2_with fail
  exact⟨rfl,Or.inl ⟨m.out,rfl,p.out⟩⟩
 have B:=ij d;have I:=r.call j;have f:=ij I;have c1:x2.cell? ⟨w.heap.size+1,1,none⟩=some (.int .i64 0):=by simpa using I.cell 1
 have f1:=I.free 1;clear r I j d;go_wp2_with fail
 have q:=f.out.set 1 (.int .i64 a);generalize x2.setCell ⟨w.heap.size+1,1,none⟩ (.int .i64 a)=y2 at q ⊢;clear f c1 f1;refine(ny y2 y2 b k2 s q.rd.self A).mono ?_;rintro e x3 (⟨d,rfl,l⟩ | ⟨c,y,v,L,d,rfl,rfl,j,rfl⟩)
 ·have m:Hid (lY ((byt s).drop k)=none):=by unfold Hid lY;rw [z.out];simp only;rw [B.out];simp only;rw [d]
  have p:=ij (il q.rd.base l);clear d l q;go_wp2_with fail
  exact⟨rfl,Or.inl ⟨m.out,rfl,p.out⟩⟩
 have C:=ij d;have I:=q.call j;have f:=ij I;have c1:x3.cell? ⟨w.heap.size+1,2,none⟩=some (.int .i64 0):=by simpa using I.cell 2
 have f1:=I.free 2;clear q I j d;go_wp2_with fail
 have t:=f.out.set 2 (.int .i64 c);generalize x3.setCell ⟨w.heap.size+1,2,none⟩ (.int .i64 c)=y3 at t ⊢;clear f c1 f1;refine(CW y3 y3 b L s t.rd.self A).mono ?_;rintro e i (⟨d,rfl,l⟩ | ⟨n,y,v,Q,d,rfl,rfl,j,rfl⟩)
 ·have m:Hid (lY ((byt s).drop k)=none):=by unfold Hid lY;rw [z.out];simp only;rw [B.out];simp only;rw [C.out];simp only;rw [d]
  have p:=ij (il t.rd.base l);clear d l t;go_wp2_with fail
  exact⟨rfl,Or.inl ⟨m.out,rfl,p.out⟩⟩
 have X:=ij d;have I:=t.call j;have f:=ij I;have c1:i.cell? ⟨w.heap.size+1,3,none⟩=some (.int .i64 0):=by simpa using I.cell 3
 have f1:=I.free 3;clear t I j d;have I:=f.out.set 3 (.int .i64 n);have Z:(i.setCell ⟨w.heap.size+1,3,none⟩ (.int .i64 n)).cell? ⟨w.heap.size+1,0,none⟩=some (.int .i64 o):=by simpa using I.cell 0
 have S:i.frozen? ⟨w.heap.size,0,none⟩=false:=f.out.rfree 0;have M:(i.setCell ⟨w.heap.size+1,3,none⟩ (.int .i64 n)).cell? ⟨w.heap.size,0,none⟩=some (.int .i64 0):=by simpa using I.rcell 0
 have F:(i.setCell ⟨w.heap.size+1,3,none⟩ (.int .i64 n)).cell? ⟨w.heap.size+1,1,none⟩=some (.int .i64 a):=by simpa using I.cell 1
 have g1:i.frozen? ⟨w.heap.size,1,none⟩=false:=f.out.rfree 1;have y:(i.setCell ⟨w.heap.size+1,3,none⟩ (.int .i64 n)).cell? ⟨w.heap.size,1,none⟩=some (.int .i64 0):=by simpa using I.rcell 1
 have O:(i.setCell ⟨w.heap.size+1,3,none⟩ (.int .i64 n)).cell? ⟨w.heap.size+1,2,none⟩=some (.int .i64 c):=by simpa using I.cell 2
 have g2:i.frozen? ⟨w.heap.size,2,none⟩=false:=f.out.rfree 2;have K:(i.setCell ⟨w.heap.size+1,3,none⟩ (.int .i64 n)).cell? ⟨w.heap.size,2,none⟩=some (.int .i64 0):=by simpa using I.rcell 2
 have Y:(i.setCell ⟨w.heap.size+1,3,none⟩ (.int .i64 n)).cell? ⟨w.heap.size+1,3,none⟩=some (.int .i64 n):=by simpa using I.cell 3
 have E:i.frozen? ⟨w.heap.size,3,none⟩=false:=f.out.rfree 3;have G:(i.setCell ⟨w.heap.size+1,3,none⟩ (.int .i64 n)).cell? ⟨w.heap.size,3,none⟩=some (.int .i64 0):=by simpa using I.rcell 3
 have D:=ij I;clear I;go_wp2_with fail
 have J:=((((D.out.rset 0 (.int .i64 o)).rset 1 (.int .i64 a)).rset 2 (.int .i64 c)).rset 3 (.int .i64 n));clear c1 f1 f D Z S M F g1 y O g2 K Y E G;generalize (((((i.setCell ⟨w.heap.size+1,3,none⟩ (.int .i64 n)).setCell ⟨w.heap.size,0,none⟩ (.int .i64 o)).setCell ⟨w.heap.size,1,none⟩ (.int .i64 a)).setCell ⟨w.heap.size,2,none⟩ (.int .i64 c)).setCell ⟨w.heap.size,3,none⟩ (.int .i64 n))=wz at J ⊢;have R:wz.cell? ⟨w.heap.size,0,none⟩=some (.int .i64 o):=by simpa using J.rcell 0
 have P:wz.cell? ⟨w.heap.size,1,none⟩=some (.int .i64 a):=by simpa using J.rcell 1
 have H:wz.cell? ⟨w.heap.size,2,none⟩=some (.int .i64 c):=by simpa using J.rcell 2
 have N:wz.cell? ⟨w.heap.size,3,none⟩=some (.int .i64 n):=by simpa using J.rcell 3
 refine bodyPost_ret (v:= .agg #[.int .i64 o,.int .i64 a,.int .i64 c,.int .i64 n]) ?_ rfl ?_
 ·simp [results,Tryz.results186,go_sem,R,P,H,N]
 ·refine Or.inr ⟨⟨o,a,c,n⟩,_,_,Q,?_,rfl,rfl,J.rd,rfl⟩;unfold lY;rw [z.out];simp only;rw [B.out];simp only;rw [C.out];simp only;rw [X.out]
def EV(v:Int × Int × Int):Value:= .agg #[.int .i64 v.1,.int .i64 v.2.1,.int .i64 v.2.2]
theorem FX(W w:World)(b k:Nat)(s:ByteArray)(h:RdS W w b s k)(u:s.size<=9223372036854775806):
  Calls Tryz.prog 139 #[pt b] w (Rd W b s (fun _ x v=>v=EV x) (mY ((byt s).drop k))):=by
 have N:=ij h;have M:pt b= .pointer (some ⟨b,0,none⟩):=rfl;rw [M]at*;clear h;go_enter Tryz.func139,Tryz.ntmps139
 go_wp2_with fail
 have n:=InS.start (T:=26) N.out #[.int .i64 0,.int .i64 0,.int .i64 0] #[.int .i64 0,.int .i64 0,.int .i64 0];generalize (w.alloc (.cells #[.int .i64 0,.int .i64 0,.int .i64 0] 26)).alloc (.cells #[.int .i64 0,.int .i64 0,.int .i64 0] 26)=w1 at n ⊢;refine(ny w1 w1 b k s n.rd.self u).mono ?_;rintro e x1 (⟨d,rfl,j⟩ | ⟨o,r,v,k1,d,rfl,rfl,i,rfl⟩)
 ·have p:Hid (mY ((byt s).drop k)=none):=by unfold Hid mY;rw [d]
  have q:=ij (il n.rd.base j);clear d j n;go_wp2_with fail
  exact⟨rfl,Or.inl ⟨p.out,rfl,q.out⟩⟩
 have t:=ij d;have I:=n.call i;have f:=ij I;have c1:x1.cell? ⟨w.heap.size+1,0,none⟩=some (.int .i64 0):=by simpa using I.cell 0
 have f1:=I.free 0;clear n I i d;go_wp2_with fail
 have m:=f.out.set 0 (.int .i64 o);generalize x1.setCell ⟨w.heap.size+1,0,none⟩ (.int .i64 o)=y1 at m ⊢;clear f c1 f1;refine(ny y1 y1 b k1 s m.rd.self u).mono ?_;rintro e x2 (⟨d,rfl,j⟩ | ⟨a,r,v,k2,d,rfl,rfl,i,rfl⟩)
 ·have p:Hid (mY ((byt s).drop k)=none):=by unfold Hid mY;rw [t.out];simp only;rw [d]
  have q:=ij (il m.rd.base j);clear d j m;go_wp2_with fail
  exact⟨rfl,Or.inl ⟨p.out,rfl,q.out⟩⟩
 have z:=ij d;have I:=m.call i;have f:=ij I;have c1:x2.cell? ⟨w.heap.size+1,1,none⟩=some (.int .i64 0):=by simpa using I.cell 1
 have f1:=I.free 1;clear m I i d;go_wp2_with fail
 have l:=f.out.set 1 (.int .i64 a);generalize x2.setCell ⟨w.heap.size+1,1,none⟩ (.int .i64 a)=y2 at l ⊢;clear f c1 f1;refine(ny y2 y2 b k2 s l.rd.self u).mono ?_;rintro e x3 (⟨d,rfl,j⟩ | ⟨c,r,v,E,d,rfl,rfl,i,rfl⟩)
 ·have p:Hid (mY ((byt s).drop k)=none):=by unfold Hid mY;rw [t.out];simp only;rw [z.out];simp only;rw [d]
  have q:=ij (il l.rd.base j);clear d j l;go_wp2_with fail
  exact⟨rfl,Or.inl ⟨p.out,rfl,q.out⟩⟩
 have B:=ij d;have I:=l.call i;have f:=ij I;have c1:x3.cell? ⟨w.heap.size+1,2,none⟩=some (.int .i64 0):=by simpa using I.cell 2
 have f1:=I.free 2;clear l I i d;have I:=f.out.set 2 (.int .i64 c);have O:(x3.setCell ⟨w.heap.size+1,2,none⟩ (.int .i64 c)).cell? ⟨w.heap.size+1,0,none⟩=some (.int .i64 o):=by simpa using I.cell 0
 have L:x3.frozen? ⟨w.heap.size,0,none⟩=false:=f.out.rfree 0;have F:(x3.setCell ⟨w.heap.size+1,2,none⟩ (.int .i64 c)).cell? ⟨w.heap.size,0,none⟩=some (.int .i64 0):=by simpa using I.rcell 0
 have A:(x3.setCell ⟨w.heap.size+1,2,none⟩ (.int .i64 c)).cell? ⟨w.heap.size+1,1,none⟩=some (.int .i64 a):=by simpa using I.cell 1
 have g1:x3.frozen? ⟨w.heap.size,1,none⟩=false:=f.out.rfree 1;have r:(x3.setCell ⟨w.heap.size+1,2,none⟩ (.int .i64 c)).cell? ⟨w.heap.size,1,none⟩=some (.int .i64 0):=by simpa using I.rcell 1
 have G:(x3.setCell ⟨w.heap.size+1,2,none⟩ (.int .i64 c)).cell? ⟨w.heap.size+1,2,none⟩=some (.int .i64 c):=by simpa using I.cell 2
 have g2:x3.frozen? ⟨w.heap.size,2,none⟩=false:=f.out.rfree 2;have D:(x3.setCell ⟨w.heap.size+1,2,none⟩ (.int .i64 c)).cell? ⟨w.heap.size,2,none⟩=some (.int .i64 0):=by simpa using I.rcell 2
 have y:=ij I;clear I;go_wp2_with fail
 have J:=(((y.out.rset 0 (.int .i64 o)).rset 1 (.int .i64 a)).rset 2 (.int .i64 c));clear c1 f1 f y O L F A g1 r G g2 D;generalize ((((x3.setCell ⟨w.heap.size+1,2,none⟩ (.int .i64 c)).setCell ⟨w.heap.size,0,none⟩ (.int .i64 o)).setCell ⟨w.heap.size,1,none⟩ (.int .i64 a)).setCell ⟨w.heap.size,2,none⟩ (.int .i64 c))=wz at J ⊢;have K:wz.cell? ⟨w.heap.size,0,none⟩=some (.int .i64 o):=by simpa using J.rcell 0
 have H:wz.cell? ⟨w.heap.size,1,none⟩=some (.int .i64 a):=by simpa using J.rcell 1
 have C:wz.cell? ⟨w.heap.size,2,none⟩=some (.int .i64 c):=by simpa using J.rcell 2
 refine bodyPost_ret (v:= .agg #[.int .i64 o,.int .i64 a,.int .i64 c]) ?_ rfl ?_
 ·simp [results,Tryz.results139,go_sem,K,H,C]
 ·refine Or.inr ⟨(o,a,c),_,_,E,?_,rfl,rfl,J.rd,rfl⟩;unfold mY;rw [t.out];simp only;rw [z.out];simp only;rw [B.out]
def oY(room:Int)(l:List Nat):Option ((Int × Int) × List Nat):=match jr l with
 | none=>none
 | some (t,r)=>match kK room r with
  | none=>none
  | some (c,r')=>if 0<c then some ((t,c),r') else none
def Ga(x:Int × Int):Value:= .agg #[.int .i64 x.1,.int .i64 x.2]
theorem Gc(W w:World)(b k:Nat)(s:ByteArray)(j:Int)(h:RdS W w b s k)(u:s.size<=9223372036854775806):
  Calls Tryz.prog 174 #[pt b,.int .i64 j] w (Rd W b s (fun _ x v=>v=Ga x) (oY j ((byt s).drop k))):=by
 have G:=ij h;have F:pt b= .pointer (some ⟨b,0,none⟩):=rfl;rw [F]at*;clear h;go_enter Tryz.func174,Tryz.ntmps174
 go_wp2_with fail
 have i:=InS.start (T:=187) G.out #[.int .i64 0,.int .i64 0] #[.int .i64 0,.int .i64 0];generalize (w.alloc (.cells #[.int .i64 0,.int .i64 0] 187)).alloc (.cells #[.int .i64 0,.int .i64 0] 187)=w1 at i ⊢;refine(ny w1 w1 b k s i.rd.self u).mono ?_;rintro e x1 (⟨a,rfl,m⟩ | ⟨t,r,v,k1,a,rfl,rfl,l,rfl⟩)
 ·have p:Hid (oY j ((byt s).drop k)=none):=by unfold Hid oY;rw [a]
  have q:=ij (il i.rd.base m);clear a m i;go_wp2_with fail
  exact⟨rfl,Or.inl ⟨p.out,rfl,q.out⟩⟩
 have n:=ij a;have I:=i.call l;have d:=ij I;have c1:x1.cell? ⟨w.heap.size+1,0,none⟩=some (.int .i64 0):=by simpa using I.cell 0
 have f1:=I.free 0;clear i I l a;go_wp2_with fail
 have f:=d.out.set 0 (.int .i64 t);generalize x1.setCell ⟨w.heap.size+1,0,none⟩ (.int .i64 t)=y1 at f ⊢;clear d c1 f1;refine(vH y1 y1 b k1 s f.rd.self u j).mono ?_;rintro e x2 (⟨a,rfl,m⟩ | ⟨c,r,v,k2,a,rfl,rfl,l,rfl⟩)
 ·have p:Hid (oY j ((byt s).drop k)=none):=by unfold Hid oY;rw [n.out];simp only;rw [a]
  have q:=ij (il f.rd.base m);clear a m f;go_wp2_with fail
  exact⟨rfl,Or.inl ⟨p.out,rfl,q.out⟩⟩
 have y:=ij a;have I:=f.call l;have d:=ij I;have c1:x2.cell? ⟨w.heap.size+1,1,none⟩=some (.int .i64 0):=by simpa using I.cell 1
 have f1:=I.free 1;clear f I l a;have I:=d.out.set 1 (.int .i64 c);have H:(x2.setCell ⟨w.heap.size+1,1,none⟩ (.int .i64 c)).cell? ⟨w.heap.size+1,0,none⟩=some (.int .i64 t):=by simpa using I.cell 0
 have z:(x2.setCell ⟨w.heap.size+1,1,none⟩ (.int .i64 c)).cell? ⟨w.heap.size+1,1,none⟩=some (.int .i64 c):=by simpa using I.cell 1
 have E:x2.frozen? ⟨w.heap.size,0,none⟩=false:=d.out.rfree 0;have g1:x2.frozen? ⟨w.heap.size,1,none⟩=false:=d.out.rfree 1;have B:(x2.setCell ⟨w.heap.size+1,1,none⟩ (.int .i64 c)).cell? ⟨w.heap.size,0,none⟩=some (.int .i64 0):=by simpa using I.rcell 0
 have r:(x2.setCell ⟨w.heap.size+1,1,none⟩ (.int .i64 c)).cell? ⟨w.heap.size,1,none⟩=some (.int .i64 0):=by simpa using I.rcell 1
 have o:=ij I;clear I;by_cases hc:0<c
 ·go_wp2_with (go_at_call 141;refine(j4 _).mono ?_;rintro e A ⟨⟨v7,rfl⟩,rfl⟩)
  have J:=(o.out.rset 0 (.int .i64 t)).rset 1 (.int .i64 c);clear c1 f1 d o H z E g1 B r;generalize (((x2.setCell ⟨w.heap.size+1,1,none⟩ (.int .i64 c)).setCell ⟨w.heap.size,0,none⟩ (.int .i64 t)).setCell ⟨w.heap.size,1,none⟩ (.int .i64 c))=wz at J ⊢;have D:wz.cell? ⟨w.heap.size,0,none⟩=some (.int .i64 t):=by simpa using J.rcell 0
  have C:wz.cell? ⟨w.heap.size,1,none⟩=some (.int .i64 c):=by simpa using J.rcell 1
  refine bodyPost_ret (v:= .agg #[.int .i64 t,.int .i64 c]) ?_ rfl ?_
  ·simp [results,Tryz.results174,go_sem,D,C]
  ·refine Or.inr ⟨(t,c),_,_,k2,?_,rfl,rfl,J.rd,rfl⟩;unfold oY;rw [n.out];simp only;rw [y.out];simp only;rw [if_pos hc]
 ·have qd:decide (0<c)=false:=by simp;omega
  go_wp2_with (go_at_call 141;refine(jK _).mono ?_;rintro e A ⟨rfl,rfl⟩)
  refine⟨rfl,Or.inl ⟨?_,rfl,o.out.rd.base⟩⟩;unfold oY;rw [n.out];simp only;rw [y.out];simp only;rw [if_neg (by omega)]
end
end Go.Proofs.YtklenjmfalljgabGreatDoor
