/- The texts End Fol Run Val Mk Mk2 New. -/
import Derived.Test.YtklenjmfalljgabGreatDoorM00
import Derived.Deep.AppendLies
import Derived.OwnWalk
import Derived.Laws.CopyRow
namespace Go.Proofs.YtklenjmfalljgabGreatDoor
set_option maxRecDepth 100000
set_option maxHeartbeats 8000000
section
open Go.RowKit
def endTo(p:List (List Ins))(s:St)(k:Nat):Int:=if (List.range k).all (doneB p s) then 3 else 4
theorem tL(p:List (List Ins))(s:St)(k:Nat):endTo p s (k+1)=if doneB p s k=true then endTo p s k else 4:=by
 unfold endTo;rw [List.range_succ,List.all_append];by_cases h:doneB p s k=true<;>simp [h]
theorem nI{p:List (List Ins)}{s:St}{k:Nat}(a:k<p.length)(h:readyB p s k=true):endingS p s=5:=by
 unfold endingS;rw [if_pos];exact List.any_eq_true.2 ⟨k,List.mem_range.2 a,h⟩
theorem oC{p:List (List Ins)}{s:St}(h:∀ k,k<p.length->readyB p s k=false):endingS p s=endTo p s p.length:=by
 unfold endingS endTo;rw [if_neg];intro hc;obtain⟨k,b,a⟩:=List.any_eq_true.1 hc;rw [h k (List.mem_range.1 b)]at a;cases a
theorem xS{B m b:Nat}{w:World}{p:List (List Ins)}{s:St}(h:vProg p=true)(y:MachAt B w m p)(hB:B<=b)(l:StAt w b s)(x:Inv p s):
  Calls Tryz.prog 83 #[.pointer (some ⟨m,0,none⟩),.pointer (some ⟨b,0,none⟩)] w
   fun e w'=>e= .returned (.int .i64 (endingS p s))/\w.grownBy w' none:=by
 have hb:=l.lt;have hlen:=iW h;have o:Hid (MachAt B w m p):=y;have u:Hid (StAt w b s):=l;have C:Hid (Inv p s):=x;have q:Hid (vProg p=true):=h;obtain⟨g,cap,F,E,h1,D⟩:=y;have h3:(p.length:Int)<=4:=by omega
 clear D l x h F E;go_enter Tryz.func83,Tryz.ntmps83
 go_wp2
 go_loopw [5,12] (fun e i w'=>∃ k:Nat,k<=p.length/\i= .int .i64 k/\e= .int .i64 (endTo p s k)/\Hid (w.grownBy w' none)/\Hid (∀ j,j<k->readyB p s j=false)) (fun _ i _=>p.length - (intOf i).toNat)
 case atStart=>exact⟨0,Nat.zero_le _,rfl,rfl,ir _ _,fun j hj=>by omega⟩
 case round=>
  obtain⟨k,hk,rfl,rfl,a,r⟩:=hrel;by_cases f:k<p.length
  ·go_wp2_with fail
   refine(uY q.out (o.out.grown' (by omega) a.out) (u.out.grown a.out) C.out f).mono ?_;rintro e G ⟨rfl,z⟩;have c:Hid (w.grownBy G none):=il a.out z;clear z;cases hr:readyB p s k
   ·go_wp2_with fail
    refine(Bz q.out (o.out.grown' (by omega) c.out) (u.out.grown c.out) f).mono ?_;rintro e H ⟨rfl,A⟩;have n:Hid (w.grownBy H none):=il c.out A;clear A;have v:Hid (endTo p s (k+1)=if doneB p s k=true then endTo p s k else 4):=tL p s k;have t:Hid (∀ j,j<k+1->readyB p s j=false):=fun j hj=>by
     by_cases e:j=k
     ·rw [e];exact hr
     ·exact r.out j (by omega)
    clear hr;cases hd:doneB p s k
    ·go_wp2
     go_roundw
     case rel=>exact⟨k+1,by omega,by go_num,by rw [v.out,hd];rfl,n,t⟩
     case measure=>simp [intOf];omega
    ·go_wp2
     go_roundw
     case rel=>exact⟨k+1,by omega,by go_num,by rw [v.out,hd];rfl,n,t⟩
     case measure=>simp [intOf];omega
   ·have d:Hid (endingS p s=5):=nI f hr;clear hr;go_wp2
    go_ret;exact⟨by rw [d.out];rfl,c⟩
  ·have e:k=p.length:=by omega
   have d:Hid (endingS p s=endTo p s k):=by rw [e];exact oC (fun j hj=>r.out j (by omega))
   clear e;go_wp2
   go_ret;exact⟨by rw [d.out];rfl,a⟩
theorem mA(x n:Int)(w:World):Calls Tryz.prog 80 #[.int .i64 x,.int .i64 n] w fun e w'=>e= .returned (.bool (belowB x n))/\w'=w:=by
 by_cases a:0<=x
 ·by_cases b:x<n
  ·have HB:Hid (belowB x n=true):=by unfold Hid;simp [belowB,a,b]
   go_enter Tryz.func80,Tryz.ntmps80
   go_wp2
   go_ret;exact⟨by rw [HB.out];rfl,rfl⟩
  ·have HB:Hid (belowB x n=false):=by unfold Hid;simp [belowB,a,b]
   have c:n<=x:=by omega
   go_enter Tryz.func80,Tryz.ntmps80
   go_wp2
   go_ret;exact⟨by rw [HB.out];rfl,rfl⟩
 ·have HB:Hid (belowB x n=false):=by unfold Hid;simp [belowB,a]
  have c:x<0:=by omega
  go_enter Tryz.func80,Tryz.ntmps80
  go_wp2
  go_ret;exact⟨by rw [HB.out];rfl,rfl⟩
def IntsAt(B:Nat)(w:World)(v:Value)(l:List Int):Prop:=
 ∃ ao cap,v= .slice ao l.length cap/\l.length<=cap/\∀ k (hk:k<l.length),∃ g o,ao=some ⟨g,o,none⟩/\g<B/\w.cell? ⟨g,o+k,none⟩=some (.int .i64 l[k])
def flatS(acc:List (Int × Int)):List Value:=acc.flatMap fun x=>[.int .i64 x.1,.int .i64 x.2]
theorem kE(acc:List (Int × Int))(x:Int × Int):flatS (acc++[x])=flatS acc++[.int .i64 x.1,.int .i64 x.2]:=by simp [flatS]
theorem iC{w w':World}{base:Nat}{e:TypeId}{b:Nat}{v:Value}{n:Nat}{xs:List Value}{r:Option Nat}(h:w.ownsRow base e b v n xs)(d:w.grownBy w' r)(i:∀ k,r=some k->k<base):w'.ownsRow base e b v n xs:=by
 obtain⟨c,a⟩:=h;refine⟨c,?_⟩;rcases a with a | ⟨g,cap,cur,hv,hb,hh,rest⟩
 ·exact Or.inl a
 ·have f:g<w.heap.size:=(Array.getElem?_eq_some_iff.1 hh).1;refine Or.inr ⟨g,cap,cur,hv,hb,?_,rest⟩;rw [d.block g f (fun e=>by have:=i g e.symm;omega)];exact hh
theorem iA{w:World}{base:Nat}{e:TypeId}{b:Nat}{v:Value}{n:Nat}{xs:List Value}(h:w.ownsRow base e b v n xs):∀ k,v.ownBlock=some k->base<=k:=by
 rcases h.2 with ⟨e1,_⟩ | ⟨g,cap,cur,hv,hb,_⟩
 ·intro k a;rw [e1]at a;cases a
 ·intro k a;rw [hv]at a;simp [Value.ownBlock]at a;omega
theorem qf:((Tryz.prog.info? 76).map fun i=>(i.zero,i.size,i.bytes))=some (some (.agg #[.int .i64 0,.int .i64 0]),2,16):=by kernel_rfl
theorem iK{w:World}{base a:Nat}{e:TypeId}{b:Nat}{v:Value}{n:Nat}{xs:List Value}(h:w.ownsRow base e b v n xs)(hb:a<=base):w.ownsRow a e b v n xs:=by
 obtain⟨d,f⟩:=h;refine⟨d,f.imp id ?_⟩;rintro⟨g,c,cur,i,hg,j⟩;exact⟨g,c,cur,i,by omega,j⟩
theorem iD{w w':World}{r:Option Nat}{g o:Nat}{v:Value}(h:w.grownBy w' r)(hg:w.heap.size<=g):w.grownBy (w'.setCell ⟨g,o,none⟩ v) r:=
 ⟨h.os,h.tape,h.output,by simpa using h.size,fun k hk hr=>by rw [Below.heap_setCell _ _ _ _ (by simp;omega)];exact h.block k hk hr⟩
theorem StAt.setOther{w:World}{b:Nat}{s:St}{g o:Nat}{v:Value}(h:StAt w b s)(a:b≠g):StAt (w.setCell ⟨g,o,none⟩ v) b s:=by
 unfold StAt at*;rw [Below.heap_setCell _ _ _ _ (by simpa using a)];exact h
theorem lM{w w':World}{r:Option Nat}{o:Obj}(h:(w.alloc o).grownBy w' r):w.grownBy w' r:=il (iq (ir w r)) h
theorem lT{w w':World}{b:Nat}{o:Obj}(h:(w.alloc o).grownBy w' (some b))(hb:b<w.heap.size):w'.heap[w.heap.size]?=some o:=by
 rw [h.block w.heap.size (by simp) (by simp;omega)];show (w.heap.push o)[w.heap.size]?=some o
 simp
theorem jN{w w':World}{r:Option Nat}(h:w.grownBy w' none):w.grownBy w' r:=⟨h.os,h.tape,h.output,h.size,fun k hk _=>h.block k hk (by simp)⟩
theorem iZ{w0 w w':World}{r:Option Nat}{v:Value}(h:w0.grownBy w r)(hg:w.grownBy w' v.ownBlock)(hv:∀ k,v.ownBlock=some k->w0.heap.size<=k):w0.grownBy w' r:=
 ⟨hg.os.trans h.os,hg.tape.trans h.tape,hg.output.trans h.output,Nat.le_trans h.size hg.size,fun k hk hr=>by
  rw [hg.block k (Nat.lt_of_lt_of_le hk h.size) (fun e=>by have:=hv k e.symm;omega)];exact h.block k hk hr⟩
theorem StAt.rowGrown{w w':World}{b:Nat}{s:St}{v:Value}(h:StAt w b s)(a:w.grownBy w' v.ownBlock)(d:∀ k,v.ownBlock=some k->b<k):StAt w' b s:=by
 have c:=h.lt;unfold StAt at*;rw [a.block b c (fun e=>by have:=d b e.symm;omega)];exact h
theorem iG{w:World}{base:Nat}{e:TypeId}{size:Nat}{v:Value}{n:Nat}{xs:List Value}{o:Obj}(h:w.ownsRow base e size v n xs):(w.alloc o).ownsRow base e size v n xs:=
 iC h (iq (ir w none)) (fun _ e=>by cases e)
theorem jS{w:World}{g:Nat}{x y z:Value}{t:TypeId}(h:w.heap[g]?=some (.cells #[x,y,z] t (0,0))):
  w.cell? ⟨g,0,none⟩=some x/\w.cell? ⟨g,1,none⟩=some y/\w.cell? ⟨g,2,none⟩=some z/\(∀ o,w.frozen? ⟨g,o,none⟩=false):=by
 simp [World.cell?,World.frozen?,h]
def Followed(w:World)(b:Nat)(o:Out)(e:Ending)(w':World):Prop:=
 ∃ sv,e= .returned (.tuple #[sv,.agg #[.int .i64 o.kind,.int .i64 o.thread,.int .i64 o.at_]])/\w'.ownsRow w.heap.size 76 2 sv o.steps.length (flatS o.steps)/\
  StAt w' b o.st/\w.grownBy w' (some b)
theorem xY{B m b:Nat}{w:World}{p:List (List Ins)}{j:St}{v:Value}{c:List Int}(hp:vProg p=true)(hM:MachAt B w m p)(P:B<=b)(hs:StAt w b j)(hI:Inv p j)
  (hv:IntsAt B w v c) (h500:c.length<=500):
  Calls Tryz.prog 50 #[.pointer (some ⟨m,0,none⟩),.pointer (some ⟨b,0,none⟩),v] w (Followed w b (follow p c 0 j [])):=by
 obtain⟨i0,Y,ad,aG,aH⟩:=info_parts qf;obtain⟨ao,cap,rfl,hcap,aA⟩:=hv;have Q:=hs.lt;have hlen:=iW hp;have HM:Hid (MachAt B w m p):=hM;have HS:Hid (StAt w b j):=hs;have HI:Hid (Inv p j):=hI;have O:Hid (vProg p=true):=hp;have HC:Hid (∀ k (hk:k<c.length),∃ g o,ao=some ⟨g,o,none⟩/\g<B/\w.cell? ⟨g,o+k,none⟩=some (.int .i64 c[k])):=aA;obtain⟨g,a5,hm,hg,h1,h2⟩:=hM;have h3:(p.length:Int)<=4:=by omega
 have h4:(c.length:Int)<=500:=by omega
 clear h2 hs hI hp aA;have HI0:Hid (Tryz.prog.info? 76=some i0):=Y;have HZ0:=ad;go_enter Tryz.func50,Tryz.ntmps50
 go_wp2_with (at_make;refine wpList_make_own _ rfl _ _ _ rfl (w.heap.size+1) 76 i0 _ 2 Tryz.underlying27 Y ad aG .i64 .i64 _ c.length rfl rfl rfl (by rw [aH];omega) (by unfold maxLen;omega) (by simp) ?_;intro w0 aC V)
 have am:Hid (w0.ownsRow (w.heap.size+1) 76 2 (.slice (some ⟨w.heap.size+1,0,none⟩) 0 c.length) 0 []):=by unfold Hid;simpa using aC
 have ai:Hid ((w.alloc (.cells #[.int .i64 0,.int .i64 0,.int .i64 0] 26)).grownBy w0 (some b)):=jN V;have aw:=(show Hid _ from V);clear aC V;go_loopw [8,17] (fun sv i w'=>∃ (k:Nat) (s:St) (f:List (Int × Int)),k<=c.length/\i= .int .i64 k/\f.length=k/\Hid (w'.ownsRow (w.heap.size+1) 76 2 sv k (flatS f))/\
   Hid (StAt w' b s)/\Hid (Inv p s)/\Hid ((w.alloc (.cells #[.int .i64 0,.int .i64 0,.int .i64 0] 26)).grownBy w' (some b))/\
   Hid (follow p c 0 j []=follow p (c.drop k) k s f)) (fun _ i _=>c.length - (intOf i).toNat)
 case atStart=>
  refine⟨0,j,[],Nat.zero_le _,rfl,rfl,am,?_,HI,ai,rfl⟩;have hh:w0.heap[b]?=w.heap[b]?:=by rw [aw.out.block b (by simp;omega) (by simp),Below.heap_alloc _ _ _ (by omega)]
  have a1:=HS.out;unfold StAt at*;unfold Hid;rw [hh];exact a1
 case round=>
  clear am ai aw;obtain⟨k,s,f,hk,rfl,J,N,H,L,y,I⟩:=hrel;have l:=lT y.out Q;obtain⟨n,q,u,d⟩:=jS l;have C:=d 0;have D:=d 1;have E:=d 2;have HV:Hid (∀ o,wr.frozen? ⟨w.heap.size,o,none⟩=false):=d;clear d l;have a2:w.heap.size+1<=wr.heap.size:=by have:=y.out.size;simpa using this
  have M:Hid (MachAt B wr m p):=(HM.out.grown' (by omega) (iq (ir w none))).grown P (by simp;omega) y.out;by_cases aB:k<c.length
  ·obtain⟨gb,go,rfl,hgb,hc⟩:=HC.out k aB;have aW:wr.cell? ⟨gb,go+k,none⟩=some (.int .i64 c[k]):=by
    rw [y.out.cell_far _ (by simp;omega) (by simp;omega),World.cell?_alloc_lt _ _ _ (by simp;omega)];exact hc
   clear hc;have K:Hid (c.drop k=c[k]::c.drop (k+1)):=List.drop_eq_getElem_cons aB;generalize c[k]=t at*;have aZ:wr.cell? ⟨m,0,none⟩=some (.slice (some ⟨g,0,none⟩) p.length a5):=by
    rw [y.out.cell_far _ (by simp;omega) (by simp;omega),World.cell?_alloc_lt _ _ _ (by simp;omega)];exact h1
   have hk0:(0:Int)<=(k:Int):=by omega
   have hk1:(k:Int)<c.length:=by omega
   have hk2:(k:Int)<500:=by omega
   go_wp2_with fail
   refine(mA t p.length wr).mono ?_;rintro e h ⟨rfl,rfl⟩;cases hbl:belowB t p.length
   ·have z:Hid (follow p c 0 j []=⟨f,2,0,k,s⟩):=by
     unfold Hid;rw [I.out,K.out];exact jh _ _ _ _ _ _ (by simp [okAt,hbl])
    clear hbl;go_wp2
    rw [z.out];exact bodyPost_ret (v:= .tuple #[u8,.agg #[.int .i64 2,.int .i64 0,.int .i64 k]]) (by simp [results,Tryz.results50,go_sem,n,q,u]) rfl
     ⟨u8,rfl,by rw [J];exact iK (ownsRow_setCell_below (ownsRow_setCell_below (ownsRow_setCell_below N.out (by simp) _) (by simp) _) (by simp) _) (by omega),((H.out.setOther (by omega)).setOther (by omega)).setOther (by omega),iD (iD (iD (lM y.out) (by omega)) (by omega)) (by omega)⟩
   ·have ht:0<=t/\t<p.length:=by simpa [belowB]using hbl
    obtain⟨a,rfl⟩:=Int.eq_ofNat_of_zero_le ht.1;have ac:a<p.length:=by omega
    have HT:Hid (belowB (a:Int) p.length=true):=hbl;clear hbl ht;go_wp2_with fail
    refine(uY O.out M.out H.out L.out ac).mono ?_;rintro e h ⟨rfl,x⟩;have A:Hid ((w.alloc (.cells #[.int .i64 0,.int .i64 0,.int .i64 0] 26)).grownBy h (some b)):=il y.out (jN x);have F:Hid (h.ownsRow (w.heap.size+1) 76 2 u8 k (flatS f)):=iC N.out x (fun _ e=>by cases e);have G:Hid (StAt h b s):=H.out.grown x;have aL:Hid (MachAt B h m p):=M.out.grown' (by omega) x;have hsz1:w.heap.size+1<=h.heap.size:=by have:=A.out.size;simpa using this
    clear n q u C D E HV aW aZ x M H N y a2;have l:=lT A.out Q;obtain⟨n,q,u,d⟩:=jS l;have C:=d 0;have D:=d 1;have E:=d 2;clear d l;cases hrd:readyB p s a
    ·have z:Hid (follow p c 0 j []=⟨f,2,0,k,s⟩):=by
      unfold Hid;rw [I.out,K.out];exact jh _ _ _ _ _ _ (by simp [okAt,hrd])
     clear hrd;go_wp2
     rw [z.out];exact bodyPost_ret (v:= .tuple #[u8,.agg #[.int .i64 2,.int .i64 0,.int .i64 k]]) (by simp [results,Tryz.results50,go_sem,n,q,u]) rfl
      ⟨u8,rfl,by rw [J];exact iK (ownsRow_setCell_below (ownsRow_setCell_below (ownsRow_setCell_below F.out (by simp) _) (by simp) _) (by simp) _) (by omega),((G.out.setOther (by omega)).setOther (by omega)).setOther (by omega),iD (iD (iD (lM A.out) (by omega)) (by omega)) (by omega)⟩
    ·have HK:Hid (okAt p s a=true):=by unfold Hid;simp [okAt,hrd,HT.out]
     have ah:Hid (doneB p s a=false):=by
      unfold Hid;cases hd:doneB p s a with
      | false=>rfl
      | true=>simp [readyB,hd]at hrd
     clear hrd;have a3:a<4:=by omega
     have a0:=G.out.next a3;have ht0:(0:Int)<=(a:Int):=by omega
     have ht1:(a:Int)<4:=by omega
     have aT:k+1<=maxLen:=by unfold maxLen;omega
     have aV:(k+1)*16<=140737488355328:=by omega
     go_wp2_with (at_builtin;refine wpList_append_lies _ rfl _ _ _ rfl (w.heap.size+1) 76 i0 _ 2 16 Tryz.underlying27 Y ad aG aH rfl (by omega) u8 k (flatS f) rfl (iG F.out) ⟨h.heap.size,0,none⟩ 1 1 [.int .i64 a,.int .i64 (s.next a)] rfl rfl (World.news_of_block (cs:= #[.int .i64 a,.int .i64 (s.next a)]) (t:=76) (fr:=(0,0)) (heap_alloc_new h _)) (by simp [Value.oneCell']) (by omega) aT aV (by simp;omega) (h.heap.size+1) (by simp) ?_;intro g2 U R aD X aU hlt2)
     have Z:=iA F.out;have S:Hid ((w.alloc (.cells #[.int .i64 0,.int .i64 0,.int .i64 0] 26)).grownBy R (some b)):=iZ (iq A.out) X (fun k e=>by have:=Z k e;simp;omega);have ar:Hid (StAt R b s):=StAt.rowGrown (G.out.grown (iq (ir _ _))) X (fun k e=>by have:=Z k e;omega);have al:Hid (MachAt B R m p):=(HM.out.grown' (by omega) (iq (ir w none))).grown P (by simp;omega) S.out;have an:Hid (R.ownsRow (w.heap.size+1) 76 2 (.slice (some ⟨g2,0,none⟩) (k+1) U) (k+1) (flatS (f++[((a:Int),s.next a)]))):=by
      unfold Hid;rw [kE];exact aD
     clear n q u C D E Z X aU aD G aL F A a0;refine(BZ O.out al.out P ar.out L.out ac ah.out).mono ?_;rintro e w3 ⟨r,rfl,hr,az,W⟩;have T:Hid ((w.alloc (.cells #[.int .i64 0,.int .i64 0,.int .i64 0] 26)).grownBy w3 (some b)):=il S.out W;have ap:Hid (w3.ownsRow (w.heap.size+1) 76 2 (.slice (some ⟨g2,0,none⟩) (k+1) U) (k+1) (flatS (f++[((a:Int),s.next a)]))):=iC an.out W (fun k e=>by cases e;omega);have au:Hid (StAt w3 b (stepS p s a).2):=az;have aK:Hid (Inv p (stepS p s a).2):=Inv.step O.out L.out ac ah.out;have HR:Hid (r=(stepS p s a).1):=hr;clear hr az W an al ar S;have l:=lT T.out Q;obtain⟨n,q,u,d⟩:=jS l;have C:=d 0;have D:=d 1;have E:=d 2;clear d l;cases r
     ·have z:Hid (follow p c 0 j []=⟨f++[((a:Int),s.next a)],1,a,s.next a,(stepS p s a).2⟩):=by
       unfold Hid;rw [I.out,K.out,kk p a _ _ s f HK.out (by simpa using HR.out.symm)];rfl
      go_wp2
      rw [z.out];exact bodyPost_ret (v:= .tuple #[.slice (some ⟨g2,0,none⟩) (k+1) U,.agg #[.int .i64 1,.int .i64 a,.int .i64 (s.next a)]]) (by simp [results,Tryz.results50,go_sem,n,q,u]) rfl
       ⟨_,rfl,by
        have e:(f++[((a:Int),s.next a)]).length=k+1:=by simp [J]
        simp only [e];exact iK (ownsRow_setCell_below (ownsRow_setCell_below (ownsRow_setCell_below ap.out (by simp) _) (by simp) _) (by simp) _) (by omega),((au.out.setOther (by omega)).setOther (by omega)).setOther (by omega),iD (iD (iD (lM T.out) (by omega)) (by omega)) (by omega)⟩
     ·have z:Hid (follow p c 0 j []=follow p (c.drop (k+1)) ((k+1:Nat):Int) (stepS p s a).2 (f++[((a:Int),s.next a)])):=by
       unfold Hid;rw [I.out,K.out,kS p a _ _ s f HK.out (by simpa using HR.out.symm)];rfl
      clear n q u C D E;go_wp2
      go_roundw
      case rel=>exact⟨k+1,(stepS p s a).2,f++[((a:Int),s.next a)],by omega,by go_num,by simp [J],ap,au,aK,T,z⟩
      case measure=>simp [intOf];omega
  ·have z:Hid (follow p c 0 j []=⟨f,endingS p s,0,0,s⟩):=by
    unfold Hid;rw [I.out,List.drop_of_length_le (by omega)];rfl
   go_wp2_with fail
   refine(xS O.out M.out P H.out L.out).mono ?_;rintro e h ⟨rfl,x⟩;have A:Hid ((w.alloc (.cells #[.int .i64 0,.int .i64 0,.int .i64 0] 26)).grownBy h (some b)):=il y.out (jN x);have F:Hid (h.ownsRow (w.heap.size+1) 76 2 u8 k (flatS f)):=iC N.out x (fun _ e=>by cases e);have G:Hid (StAt h b s):=H.out.grown x;clear n q u C D E HV x;have l:=lT A.out Q;obtain⟨n,q,u,d⟩:=jS l;have C:=d 0;have D:=d 1;have E:=d 2;clear d l;go_wp2
   rw [z.out];exact bodyPost_ret (v:= .tuple #[u8,.agg #[.int .i64 (endingS p s),.int .i64 0,.int .i64 0]]) (by simp [results,Tryz.results50,go_sem,n,q,u]) rfl
    ⟨u8,rfl,by rw [J];exact iK (ownsRow_setCell_below (ownsRow_setCell_below (ownsRow_setCell_below F.out (by simp) _) (by simp) _) (by simp) _) (by omega),((G.out.setOther (by omega)).setOther (by omega)).setOther (by omega),iD (iD (iD (lM A.out) (by omega)) (by omega)) (by omega)⟩
end
section
open Go.RowKit
attribute [local go_sem] Go.World.cell?_alloc_some
theorem ij{p:Prop}(h:p):Hid p:=h
theorem kI{p:Prop}(h:Hid p):p:=h
section
variable {P : Program}
theorem pJ(w:World)(h y ty c:TypeId)(g b m:Nat)(a:Addr)(d x f:Nat)(cur:Array Value)(t:TypeId)(cs:List Value)
  (u:P.underlying h=some (.slice c)) (k:(P.info? c).map (·.size)=some f)
  (o:w.heap[g]?=some (.cells cur t (0,0))) (r:cs.length=Nat.min d b*f)
  (s:∀ j v,cs[j]?=some v->w.cell? (a.add j)=some v) (hfit:cs.length=cur.size) (n:∀ v∈cs,v.oneCell'=true):
  (Builtin.copy_ #[h,y] ty #[.slice (some ⟨g,0,none⟩) b m,.slice (some a) d x]).run P w=
   .ok (goInt (Nat.min d b)) (w.setRow g cs.toArray):=by
 have q:=run_loadCells_list (P:=P) w a cs s;have l:=run_storeCells_at P g 0 t cs 0 cur w o (by omega) n;have e:(cur.toList.take (0+0)++cs++cur.toList.drop (0+0+cs.length))=cs:=by
  have:cur.toList.drop (0+0+cs.length)=[]:=List.drop_of_length_le (by simp;omega);rw [this];simp
 rw [e]at l;cases hq:P.info? c with
 | none=>simp [hq]at k
 | some i=>
  have p:i.size=f:=by simpa [hq]using k
  simp [Builtin.copy_,run_underlying u,Builtin.lenOf,Builtin.firstCells,sizeOf,typeInfo,hq,p,<-r,q,l]
end
def regsF(n:Nat)(s:St):List Value:=(List.range n).flatMap fun t=>[.int .i64 (s.regs t 0),.int .i64 (s.regs t 1),.int .i64 (s.regs t 2),.int .i64 (s.regs t 3)]
theorem jg(n:Nat)(s:St):(regsF n s).length=n*4:=by
 induction n with
 | zero=>rfl
 | succ n ih=>unfold regsF at*;rw [List.range_succ,List.flatMap_append,List.length_append,ih];simp;omega
theorem sU{w:World}{b:Nat}{s:St}(k:StAt w b s){n:Nat}(hn:n<=4):∀ j v,(regsF n s)[j]?=some v->w.cell? ((⟨b,10,none⟩:Addr).add j)=some v:=by
 intro j v a;have f:(⟨b,10,none⟩:Addr).add j=⟨b,10+j,none⟩:=by unfold Addr.add;split<;>simp_all
 have i:j<n*4:=by
  have:=(List.getElem?_eq_some_iff.1 a).1;rw [jg]at this;exact this
 rw [f,k.cell];have hc:n=0\/n=1\/n=2\/n=3\/n=4:=by omega
 have e:(regsF 4 s)[j]?=some v:=by
  have d:∃ l,regsF 4 s=regsF n s++l:=by
   rcases hc with rfl | rfl | rfl | rfl | rfl
   ·exact⟨_,rfl⟩
   ·exact⟨_,rfl⟩
   ·exact⟨_,rfl⟩
   ·exact⟨_,rfl⟩
   ·exact⟨[],by simp⟩
  obtain⟨l,e⟩:=d;rw [e,List.getElem?_append_left (by rw [jg];exact i)];exact a
 have h16:j<16:=by omega
 have h:s.cells[10+j]?=(regsF 4 s)[j]?:=by
  have:s.cells.toList.drop 10=regsF 4 s++[.int .i64 (s.next 0),.int .i64 (s.next 1),.int .i64 (s.next 2),.int .i64 (s.next 3)]:=rfl;have c:(s.cells.toList.drop 10)[j]?=(regsF 4 s)[j]?:=by
   rw [this,List.getElem?_append_left (by rw [jg];omega)]
  rw [<-c,List.getElem?_drop];simp
 rw [h];exact e
theorem wT(n:Nat)(s:St):∀ v∈regsF n s,v.oneCell'=true:=by
 intro v a;unfold regsF at a;simp only [List.mem_flatMap,List.mem_cons,List.not_mem_nil,or_false]at a;obtain⟨t,_,h⟩:=a;rcases h with rfl | rfl | rfl | rfl<;>rfl
theorem oQ{w:World}{base:Nat}{e:TypeId}{b:Nat}{g n a:Nat}{xs:List Value}(h:w.ownsRow base e b (.slice (some ⟨g,0,none⟩) n a) n xs):
  ∃ cur,w.heap[g]?=some (.cells cur e (0,0))/\cur.size=a*b:=by
 rcases h.2 with ⟨e1,_⟩ | ⟨g',cap',cur,hv,hb,hh,_,_,hs,_⟩
 ·cases e1
 ·simp at hv;obtain⟨rfl,rfl⟩:=hv;exact⟨cur,hh,hs⟩
theorem jl{w:World}{g:Nat}{x0 x1 x2 x3 a b c d e:Value}{t:TypeId}(h:w.heap[g]?=some (.cells #[x0,x1,x2,x3,a,b,c,d,e] t (0,0))):
  w.cell? ⟨g,0,none⟩=some x0/\w.cell? ⟨g,1,none⟩=some x1/\w.cell? ⟨g,2,none⟩=some x2/\w.cell? ⟨g,3,none⟩=some x3/\w.cell? ⟨g,4,none⟩=some a/\w.cell? ⟨g,5,none⟩=some b/\w.cell? ⟨g,6,none⟩=some c/\w.cell? ⟨g,7,none⟩=some d/\w.cell? ⟨g,8,none⟩=some e/\(∀ o,w.frozen? ⟨g,o,none⟩=false):=by
 simp [World.cell?,World.frozen?,h]
theorem mJ(w:World)(g k:Nat)(cs:Array Value)(h:k≠g):(w.setRow g cs).heap[k]?=w.heap[k]?:=by
 simp only [World.setRow,Array.getElem?_modify];rw [if_neg (by omega)]
theorem iw{w:World}{base:Nat}{e:TypeId}{a:Nat}{v:Value}{n:Nat}{xs:List Value}(h:w.ownsRow base e a v n xs):∃ ao n c,v= .slice ao n c:=by
 rcases h.2 with ⟨e1,_⟩ | ⟨g',cap',cur,hv,_⟩
 ·exact⟨_,_,_,e1⟩
 ·exact⟨_,_,_,hv⟩
def ResAt(base:Nat)(w:World)(o:Out)(n:Nat)(rv:Value):Prop:=
 ∃ sv gv,rv= .agg #[.int .i64 o.kind,.int .i64 o.thread,.int .i64 o.at_,sv,.int .i64 (o.st.vars 0),.int .i64 (o.st.vars 1),.int .i64 (o.st.vars 2),.int .i64 (o.st.vars 3),gv]/\
  w.ownsRow base 76 2 sv o.steps.length (flatS o.steps)/\w.ownsRow base 28 4 gv n (regsF n o.st)
theorem sq:((Tryz.prog.info? 28).map fun i=>(i.zero,i.size,i.bytes))=some (some (.agg #[.int .i64 0,.int .i64 0,.int .i64 0,.int .i64 0]),4,32):=by kernel_rfl
theorem qo{B m:Nat}{w:World}{p:List (List Ins)}{v:Value}{c:List Int}(u:vProg p=true)(F:MachAt B w m p)(E:B<=w.heap.size)
  (K:IntsAt B w v c) (ah:c.length<=500):
  Calls Tryz.prog 17 #[.pointer (some ⟨m,0,none⟩),v] w fun e w'=>∃ rv,e= .returned rv/\ResAt w.heap.size w' (runS p c) p.length rv/\w.grownBy w' none:=by
 obtain⟨i0,H,al,N,am⟩:=info_parts sq;have hlen:=iW u;have C:Hid (MachAt B w m p):=F;have X:Hid (IntsAt B w v c):=K;have U:Hid (vProg p=true):=u;clear F K u;go_enter Tryz.func17,Tryz.ntmps17
 go_wp2_with fail
 generalize G:Obj.cells #[Value.int IntKind.i64 0,Value.int IntKind.i64 0,Value.int IntKind.i64 0,Value.slice none 0 0,Value.int IntKind.i64 0,Value.int IntKind.i64 0,Value.int IntKind.i64 0,Value.int IntKind.i64 0,Value.slice none 0 0] 31=R9;have V:=ij G;clear G;have Z:Hid (StAt ((w.alloc R9).alloc (.cells St.zero.cells 122)) (w.heap.size+1) St.zero):=by
  unfold Hid StAt;have:=heap_alloc_new (w.alloc R9) (.cells St.zero.cells 122);simpa using this
 have HB:Hid (w.grownBy ((w.alloc R9).alloc (.cells St.zero.cells 122)) none):=iq (iq (ir _ _));have Y:Hid (IntsAt B ((w.alloc R9).alloc (.cells St.zero.cells 122)) v c):=by
  obtain⟨ao,ab,e,h1,h2⟩:=X.out;refine⟨ao,ab,e,h1,fun k hk=>?_⟩;obtain⟨g,o,e1,e2,e3⟩:=h2 k hk;exact⟨g,o,e1,e2,by rw [HB.out.cell_far _ (by simp;omega) (by simp)];exact e3⟩
 have y:=ij (xY U.out (C.out.grown' E HB.out) (by omega:B<=w.heap.size+1) Z.out (Inv.zero p) Y.out ah);refine(kI y).mono ?_;rintro e a ⟨sv,rfl,l,J,d⟩;have R:Hid (a.ownsRow (w.heap.size+2) 76 2 sv (runS p c).steps.length (flatS (runS p c).steps)):=by
  have e:((w.alloc R9).alloc (.cells St.zero.cells 122)).heap.size=w.heap.size+2:=by simp
  rw [e]at l;exact l
 have W:Hid (StAt a (w.heap.size+1) (runS p c).st):=J;have P:Hid (((w.alloc R9).alloc (.cells St.zero.cells 122)).grownBy a (some (w.heap.size+1))):=d;have hsz:w.heap.size+2<=a.heap.size:=by have:=d.size;simpa using this
 have z:Hid (w.grownBy a none):=by
  refine⟨d.os,d.tape,d.output,by omega,fun k hk _=>?_⟩;rw [d.block k (by simp;omega) (by simp;omega)];exact HB.out.block k hk (by simp)
 obtain⟨aA,aC,aB,rfl⟩:=iw l;have Q:Hid (MachAt B a m p):=C.out.grown' E z.out;clear l J d y;generalize q:runS p c=o at*;have I:follow p c 0 St.zero []=o:=q;rw [I];clear I;have T:=ij q;clear q;obtain⟨mg,mcap,hm1,hm2,aj,ak⟩:=Q.out;clear ak;have hn4:(p.length:Int)<=4:=by omega
 have D:Hid (StAt (a.alloc (.cells #[.int .i64 o.kind,.int .i64 o.thread,.int .i64 o.at_] 26)) (w.heap.size+1) o.st):=W.out.grown (iq (ir _ _));go_wp2_with (at_make;refine wpList_make_full _ rfl _ _ _ rfl (w.heap.size+2) 28 i0 _ 4 Tryz.underlying29 H al N .i64 .i64 _ _ p.length rfl rfl rfl rfl (by rw [am];omega) (by unfold maxLen;omega) (by simp;omega) ?_;intro n t s;simp only [World.size_alloc]at t;obtain⟨cur,r,ai⟩:=oQ t)
 rw [pJ n 29 29 3 28 (a.heap.size+1) p.length p.length ⟨w.heap.size+1,10,none⟩ 4 4 4 cur 28 (regsF p.length o.st) Tryz.underlying29 (by rw [H];simp [N]) r (by rw [jg];show p.length*4=min 4 p.length*4;omega) (sU (D.out.grown s) (by omega)) (by rw [jg,ai]) (wT _ _)];have j:Hid ((a.alloc (.cells #[.int .i64 o.kind,.int .i64 o.thread,.int .i64 o.at_] 26)).grownBy n none):=s;have O:Hid (n.heap[a.heap.size+1]?=some (.cells cur 28 (0,0))):=r;clear s t r;generalize M:n.setRow (a.heap.size+1) (regsF p.length o.st).toArray=w3;have f:=ij M;clear M;have h:∀ k,k<a.heap.size+1->w3.heap[k]?=(a.alloc (.cells #[.int .i64 o.kind,.int .i64 o.thread,.int .i64 o.at_] 26)).heap[k]?:=fun k hk=>by
  rw [<-f.out,mJ _ _ _ _ (by omega),j.out.block k (by simp;omega) (by simp)]
 have HB3:=ij h;have L:w3.heap[a.heap.size]?=some (.cells #[.int .i64 o.kind,.int .i64 o.thread,.int .i64 o.at_] 26 (0,0)):=by rw [h _ (by omega)];exact heap_alloc_new a _
 have i:StAt w3 (w.heap.size+1) o.st:=by
  unfold StAt;rw [h _ (by omega)];exact D.out
 have x:w3.heap[w.heap.size]?=some R9:=by
  rw [h _ (by omega),Below.heap_alloc _ _ _ (by omega),P.out.block _ (by simp;omega) (by simp)];rw [Below.heap_alloc _ _ _ (by simp)];exact heap_alloc_new w R9
 obtain⟨q0,q1,q2,_⟩:=jS L;have s0:=i.var (v:=0) (by omega);have s1:=i.var (v:=1) (by omega);have s2:=i.var (v:=2) (by omega);have s3:=i.var (v:=3) (by omega);have HST:=ij i;rw [<-V.out]at x;obtain⟨r0,r1,r2,r3,r4,r5,r6,r7,r8,b⟩:=jl x;have f0:=b 0;have f1:=b 1;have f2:=b 2;have f3:=b 3;have f4:=b 4;have f5:=b 5;have f6:=b 6;have f7:=b 7;have f8:=b 8;have A:Hid (a.grownBy w3 none):=by
  refine⟨?_,?_,?_,?_,fun k hk _=>by rw [h k (by omega),Below.heap_alloc _ _ _ hk]⟩
  ·rw [<-f.out];exact j.out.os
  ·rw [<-f.out];exact j.out.tape
  ·rw [<-f.out];exact j.out.output
  ·rw [<-f.out];have:=j.out.size;simp at this ⊢;omega
 have S:Hid (w3.ownsRow (w.heap.size+2) 28 4 (.slice (some ⟨a.heap.size+1,0,none⟩) p.length p.length) p.length (regsF p.length o.st)):=by
  refine⟨jg _ _,Or.inr ⟨a.heap.size+1,p.length,(regsF p.length o.st).toArray,rfl,by omega,?_,Nat.le_refl _,by unfold maxLen;omega,by simp [jg],?_⟩⟩
  ·rw [<-f.out];exact setRow_heap _ _ _ _ _ _ O.out
  ·rw [List.take_of_length_le (by simp [jg])]
 clear b x L i h aj;go_wp2
 rw [T.out];refine bodyPost_ret (v:= .agg #[.int .i64 o.kind,.int .i64 o.thread,.int .i64 o.at_,.slice aA aC aB,.int .i64 (o.st.vars 0),.int .i64 (o.st.vars 1),.int .i64 (o.st.vars 2),.int .i64 (o.st.vars 3),.slice (some ⟨a.heap.size+1,0,none⟩) p.length p.length]) ?_ rfl ⟨_,rfl,⟨_,_,rfl,?_,?_⟩,?_⟩
 ·simp [results,Tryz.results17,go_sem,r0,r1,r2,r3,r4,r5,r6,r7,r8]
 ·refine iK (base:=w.heap.size+2) ?_ (by omega);iterate 9 refine ownsRow_setCell_below ?_ (by simp) _
  exact iC R.out A.out (fun _ e=>by cases e)
 ·refine iK (base:=w.heap.size+2) ?_ (by omega);iterate 9 refine ownsRow_setCell_below ?_ (by simp) _
  exact S.out
 ·iterate 9 refine iD ?_ (by omega)
  exact il z.out A.out
theorem tO(k x len:Int)(h0:0<=len)(h16:len<=16)(w:World):Calls Tryz.prog 157 #[.int .i64 k,.int .i64 x,.int .i64 len] w fun e w'=>e= .returned (.bool (fitsB k x len))/\w'=w:=by
 by_cases a:k=1
 ·subst a;go_enter Tryz.func157,Tryz.ntmps157
  go_wp2_with (go_at_call 80;refine(mA _ _ _).mono ?_;rintro e w' ⟨rfl,rfl⟩)
  go_ret;exact⟨rfl,rfl⟩
 by_cases b:k=2
 ·subst b;go_enter Tryz.func157,Tryz.ntmps157
  go_wp2_with (go_at_call 80;refine(mA _ _ _).mono ?_;rintro e w' ⟨rfl,rfl⟩)
  go_ret;exact⟨rfl,rfl⟩
 by_cases c:k=3
 ·subst c;go_enter Tryz.func157,Tryz.ntmps157
  go_wp2_with (go_at_call 80;refine(mA _ _ _).mono ?_;rintro e w' ⟨rfl,rfl⟩)
  go_ret;exact⟨rfl,rfl⟩
 by_cases d:k=4
 ·subst d;go_enter Tryz.func157,Tryz.ntmps157
  go_wp2_with (go_at_call 80;refine(mA _ _ _).mono ?_;rintro e w' ⟨rfl,rfl⟩)
  go_ret;exact⟨rfl,rfl⟩
 by_cases f:k=5
 ·subst f;go_enter Tryz.func157,Tryz.ntmps157
  go_wp2_with fail
  go_ret;exact⟨rfl,rfl⟩
 have HB:Hid (fitsB k x len=(x==0)):=by unfold Hid;simp [fitsB,a,b,c,d,f]
 have f1:(k==1)=false:=by simpa using a
 have f2:(k==2)=false:=by simpa using b
 have f3:(k==3)=false:=by simpa using c
 have f4:(k==4)=false:=by simpa using d
 have f5:(k==5)=false:=by simpa using f
 go_enter Tryz.func157,Tryz.ntmps157
 go_wp2_with fail
 go_ret;exact⟨by rw [HB.out];rfl,rfl⟩
def ShpAt(w:World):Prop:=∀ o j,o<12->j<3->w.cell? ⟨0,o*3+j,none⟩=some (.int .i64 (shp o j))
theorem uF(i:Ins)(len:Int)(f:0<=len)(h:len<=16)(w:World)(l:ShpAt w):
  Calls Tryz.prog 123 #[.agg #[.int .i64 i.op,.int .i64 i.a,.int .i64 i.b,.int .i64 i.n],.int .i64 len] w fun e w'=>e= .returned (.bool (vIns i len))/\w.grownBy w' none:=by
 have d:Hid (ShpAt w):=l;clear l;by_cases j:1<=i.op
 ·by_cases k:i.op<=11
  ·have eo:((i.op.toNat:Nat):Int)=i.op:=by omega
   have c0:=d.out i.op.toNat 0 (by omega) (by omega);have c1:=d.out i.op.toNat 1 (by omega) (by omega);have c2:=d.out i.op.toNat 2 (by omega) (by omega);simp only [Nat.add_zero]at c0;have c:Hid (vIns i len=(fitsB (shp i.op.toNat 0) i.a len && (fitsB (shp i.op.toNat 1) i.b len && fitsB (shp i.op.toNat 2) i.n len))):=by unfold Hid;simp [vIns,j,k]
   generalize shp i.op.toNat 0=k0 at*;generalize shp i.op.toNat 1=k1 at*;generalize shp i.op.toNat 2=k2 at*;go_enter Tryz.func123,Tryz.ntmps123
   go_wp2_with fail
   refine(tO _ _ _ f h _).mono ?_;rintro e w' ⟨rfl,rfl⟩;cases hf0:fitsB k0 i.a len
   ·go_wp2_with fail
    go_ret;exact⟨by rw [c.out,hf0];rfl,iq (iq (ir _ _))⟩
   ·go_wp2_with fail
    refine(tO _ _ _ f h _).mono ?_;rintro e w' ⟨rfl,rfl⟩;cases hf1:fitsB k1 i.b len
    ·go_wp2_with fail
     go_ret;exact⟨by rw [c.out,hf0,hf1];rfl,iq (iq (ir _ _))⟩
    ·go_wp2_with fail
     refine(tO _ _ _ f h _).mono ?_;rintro e w' ⟨rfl,rfl⟩;go_wp2_with fail
     go_ret;exact⟨by rw [c.out,hf0,hf1];simp,iq (iq (ir _ _))⟩
  ·have c:Hid (vIns i len=false):=by unfold Hid;simp [vIns,k]
   have m:11<i.op:=by omega
   go_enter Tryz.func123,Tryz.ntmps123
   go_wp2_with fail
   go_ret;exact⟨by rw [c.out];rfl,iq (ir _ _)⟩
 ·have c:Hid (vIns i len=false):=by unfold Hid;simp [vIns,j]
  have m:i.op<1:=by omega
  go_enter Tryz.func123,Tryz.ntmps123
  go_wp2_with fail
  go_ret;exact⟨by rw [c.out];rfl,iq (ir _ _)⟩
def CodeAt(w:World)(v:Value)(c:List Ins):Prop:=
 ∃ ao cap,v= .slice ao c.length cap/\∀ k (hk:k<c.length),∃ g o,ao=some ⟨g,o,none⟩/\w.cell? ⟨g,o+k*4,none⟩=some (.int .i64 c[k].op)/\
  w.cell? ⟨g,o+k*4+1,none⟩=some (.int .i64 c[k].a)/\w.cell? ⟨g,o+k*4+2,none⟩=some (.int .i64 c[k].b)/\w.cell? ⟨g,o+k*4+3,none⟩=some (.int .i64 c[k].n)
def ProgAt(w:World)(v:Value)(p:List (List Ins)):Prop:=
 ∃ ao cap,v= .agg #[.slice ao p.length cap]/\∀ t (ht:t<p.length),∃ g o,ao=some ⟨g,o,none⟩/\∃ rv,w.cell? ⟨g,o+t,none⟩=some rv/\CodeAt w rv p[t]
def Pres(w w':World):Prop:=∀ a v,w.cell? a=some v->w'.cell? a=some v
theorem Pres.refl(w:World):Pres w w:=fun _ _ h=>h
theorem Pres.trans{a b c:World}(h:Pres a b)(h':Pres b c):Pres a c:=fun x v hx=>h' x v (h x v hx)
theorem ip{w w':World}(h:w.grownBy w' none):Pres w w':=fun a v ha=>by
 rw [h.cell_far a (World.block_lt_of_cell? w a ha) (by simp)];exact ha
theorem CodeAt.pres{w w':World}{v:Value}{c:List Ins}(h:CodeAt w v c)(a:Pres w w'):CodeAt w' v c:=by
 obtain⟨b,d,e,h⟩:=h;refine⟨b,d,e,fun k hk=>?_⟩;obtain⟨g,o,f,i,j,l,m⟩:=h k hk;exact⟨g,o,f,a _ _ i,a _ _ j,a _ _ l,a _ _ m⟩
theorem ProgAt.pres{w w':World}{v:Value}{p:List (List Ins)}(h:ProgAt w v p)(a:Pres w w'):ProgAt w' v p:=by
 obtain⟨b,c,e,h⟩:=h;refine⟨b,c,e,fun k hk=>?_⟩;obtain⟨g,o,d,rv,f,i⟩:=h k hk;exact⟨g,o,d,rv,a _ _ f,i.pres a⟩
theorem ShpAt.pres{w w':World}(h:ShpAt w)(hp:Pres w w'):ShpAt w':=fun o j h1 h2=>hp _ _ (h o j h1 h2)
theorem ju{α:Type}(l:List α)(f:α->Bool)(k:Nat)(h:k<l.length):(l.take (k+1)).all f=((l.take k).all f && f l[k]):=by
 rw [List.take_succ_eq_append_getElem h,List.all_append];simp
theorem pM(c:List Ins)(v:Value)(w:World)(q:ShpAt w)(hc:CodeAt w v c):
  Calls Tryz.prog 84 #[v] w fun e w'=>e= .returned (.bool (vCode c))/\w.grownBy w' none:=by
 obtain⟨ao,cap,rfl,hc⟩:=hc;have x:Hid (ShpAt w):=q;have u:=ij hc;clear q hc;by_cases p:c.length<=16
 ·have z:(c.length:Int)<=16:=by omega
  have d:Hid (vCode c=c.all fun i=>vIns i c.length):=by unfold Hid;simp [vCode,p]
  go_enter Tryz.func84,Tryz.ntmps84
  go_wp2
  go_loopw [10] (fun i w'=>∃ k:Nat,k<=c.length/\i= .int .i64 k/\Hid (w.grownBy w' none)/\Hid ((c.take k).all (fun i=>vIns i c.length)=true)) (fun i _=>c.length - (intOf i).toNat)
  case atStart=>exact⟨0,Nat.zero_le _,rfl,ir _ _,rfl⟩
  case round=>
   obtain⟨k,hk,rfl,b,j⟩:=hrel;by_cases s:k<c.length
   ·obtain⟨g,o,rfl,c0,c1,m,n⟩:=u.out k s;have a:=ip b.out;have d0:=a _ _ c0;have d1:=a _ _ c1;have d2:=a _ _ m;have d3:=a _ _ n;have f:=ij (ju c (fun i=>vIns i c.length) k s);clear c0 c1 m n a;have hk0:(0:Int)<=(k:Int):=by omega
    have hk1:(k:Int)<c.length:=by omega
    have y:Hid (ShpAt wr):=x.out.pres (ip b.out);generalize c[k]=i at*;go_wp2_with fail
    refine(uF i c.length (by omega) (by omega) _ (y.out.pres (ip (iq (ir _ _))))).mono ?_;rintro e A ⟨rfl,r⟩;have l:Hid (w.grownBy A none):=il (iq b.out) r;clear r;cases hv:vIns i c.length
    ·have h:Hid (vCode c=false):=by
      unfold Hid;rw [d.out];have:(c.take (k+1)).all (fun i=>vIns i c.length)=false:=by rw [f.out,hv];simp
      rw [<-List.take_append_drop (k+1) c,List.all_append,List.take_append_drop,this];rfl
     go_wp2_with fail
     go_ret;exact⟨by rw [h.out];rfl,l⟩
    ·have t:Hid ((c.take (k+1)).all (fun i=>vIns i c.length)=true):=by unfold Hid;rw [f.out,hv,j.out];rfl
     clear f hv;go_wp2
     go_roundw
     case rel=>exact⟨k+1,by omega,by go_num,l,t⟩
     case measure=>simp [intOf];omega
   ·have h:Hid (vCode c=true):=by
     unfold Hid;rw [d.out];have:=j.out;rw [List.take_of_length_le (by omega)]at this;exact this
    go_wp2
    go_ret;exact⟨by rw [h.out];rfl,b⟩
 ·have d:Hid (vCode c=false):=by unfold Hid;simp [vCode,p]
  have z:(16:Int)<c.length:=by omega
  go_enter Tryz.func84,Tryz.ntmps84
  go_wp2
  go_ret;exact⟨by rw [d.out];rfl,ir _ _⟩
def Made(w:World)(t:Nat)(i:Ins)(e:Ending)(w':World):Prop:=∃ v,e= .returned v/\(∀ w'':World,(∀ k,w.heap.size<=k->k<w'.heap.size->w''.heap[k]?=w'.heap[k]?)->ActIs w'.heap.size w'' v t i)/\w.grownBy w' none
theorem BW(t:Nat)(i:Ins)(h:i.op=1)(w:World):Calls Tryz.prog 110 #[.int .i64 t,.int .i64 i.a,.int .i64 i.n] w (Made w t i):=by
 have hmf:∀ (fn:Fn) (first cap:Array Value) (w:World),(Instr.makeFunc fn first cap).run Tryz.prog w= .ok (.func fn first cap) w:=fun _ _ _ _=>rfl
 have H:Hid (i.op=1):=h;clear h;go_enter Tryz.func110,Tryz.ntmps110
 go_wp2
 go_ret;have h:=H.out;refine⟨_,rfl,fun w2 hw2=>⟨w.heap.size+2,w.heap.size,w.heap.size+1,0,by(simp<;>omega),by(simp<;>omega),by(simp<;>omega),by simp,Or.inl ⟨h,rfl,?_,?_,?_⟩⟩,iq (iq (iq (ir _ _)))⟩
 all_goals (rw [World.cell?_of_block (hw2 _ (by(simp<;>omega)) (by(simp<;>omega)))];simp [go_sem])
theorem Az(t:Nat)(i:Ins)(h:i.op=2)(w:World):Calls Tryz.prog 111 #[.int .i64 t,.int .i64 i.a,.int .i64 i.b] w (Made w t i):=by
 have hmf:∀ (fn:Fn) (first cap:Array Value) (w:World),(Instr.makeFunc fn first cap).run Tryz.prog w= .ok (.func fn first cap) w:=fun _ _ _ _=>rfl
 have H:Hid (i.op=2):=h;clear h;go_enter Tryz.func111,Tryz.ntmps111
 go_wp2
 go_ret;have h:=H.out;refine⟨_,rfl,fun w2 hw2=>⟨w.heap.size+2,w.heap.size,w.heap.size+1,0,by(simp<;>omega),by(simp<;>omega),by(simp<;>omega),by simp,Or.inr (Or.inl ⟨h,rfl,?_,?_,?_⟩)⟩,iq (iq (iq (ir _ _)))⟩
 all_goals (rw [World.cell?_of_block (hw2 _ (by(simp<;>omega)) (by(simp<;>omega)))];simp [go_sem])
theorem zo(t:Nat)(i:Ins)(h:i.op=3)(w:World):Calls Tryz.prog 112 #[.int .i64 t,.int .i64 i.a,.int .i64 i.b] w (Made w t i):=by
 have hmf:∀ (fn:Fn) (first cap:Array Value) (w:World),(Instr.makeFunc fn first cap).run Tryz.prog w= .ok (.func fn first cap) w:=fun _ _ _ _=>rfl
 have H:Hid (i.op=3):=h;clear h;go_enter Tryz.func112,Tryz.ntmps112
 go_wp2
 go_ret;have h:=H.out;refine⟨_,rfl,fun w2 hw2=>⟨w.heap.size,w.heap.size+2,w.heap.size+1,0,by(simp<;>omega),by(simp<;>omega),by(simp<;>omega),by simp,Or.inr (Or.inr (Or.inl ⟨h,rfl,?_,?_,?_⟩))⟩,iq (iq (iq (ir _ _)))⟩
 all_goals (rw [World.cell?_of_block (hw2 _ (by(simp<;>omega)) (by(simp<;>omega)))];simp [go_sem])
theorem vM(t:Nat)(i:Ins)(h:i.op=7)(w:World):Calls Tryz.prog 117 #[.int .i64 t,.int .i64 i.a,.int .i64 i.b] w (Made w t i):=by
 have hmf:∀ (fn:Fn) (first cap:Array Value) (w:World),(Instr.makeFunc fn first cap).run Tryz.prog w= .ok (.func fn first cap) w:=fun _ _ _ _=>rfl
 have H:Hid (i.op=7):=h;clear h;go_enter Tryz.func117,Tryz.ntmps117
 go_wp2
 go_ret;have h:=H.out;refine⟨_,rfl,fun w2 hw2=>⟨w.heap.size,w.heap.size+2,w.heap.size+1,0,by(simp<;>omega),by(simp<;>omega),by(simp<;>omega),by simp,Or.inr (Or.inr (Or.inr (Or.inr (Or.inl ⟨h,rfl,?_,?_,?_⟩))))⟩,iq (iq (iq (ir _ _)))⟩
 all_goals (rw [World.cell?_of_block (hw2 _ (by(simp<;>omega)) (by(simp<;>omega)))];simp [go_sem])
theorem At(t:Nat)(i:Ins)(h:i.op=8)(w:World):Calls Tryz.prog 118 #[.int .i64 t,.int .i64 i.a,.int .i64 i.n] w (Made w t i):=by
 have hmf:∀ (fn:Fn) (first cap:Array Value) (w:World),(Instr.makeFunc fn first cap).run Tryz.prog w= .ok (.func fn first cap) w:=fun _ _ _ _=>rfl
 have H:Hid (i.op=8):=h;clear h;go_enter Tryz.func118,Tryz.ntmps118
 go_wp2
 go_ret;have h:=H.out;refine⟨_,rfl,fun w2 hw2=>⟨w.heap.size,w.heap.size+1,w.heap.size+2,0,by(simp<;>omega),by(simp<;>omega),by(simp<;>omega),by simp,Or.inr (Or.inr (Or.inr (Or.inr (Or.inr (Or.inl ⟨h,rfl,?_,?_,?_⟩)))))⟩,iq (iq (iq (ir _ _)))⟩
 all_goals (rw [World.cell?_of_block (hw2 _ (by(simp<;>omega)) (by(simp<;>omega)))];simp [go_sem])
theorem Bd(t:Nat)(i:Ins)(h:i.op=9)(w:World):Calls Tryz.prog 119 #[.int .i64 t,.int .i64 i.a] w (Made w t i):=by
 have hmf:∀ (fn:Fn) (first cap:Array Value) (w:World),(Instr.makeFunc fn first cap).run Tryz.prog w= .ok (.func fn first cap) w:=fun _ _ _ _=>rfl
 have H:Hid (i.op=9):=h;clear h;go_enter Tryz.func119,Tryz.ntmps119
 go_wp2
 go_ret;have h:=H.out;refine⟨_,rfl,fun w2 hw2=>⟨w.heap.size,w.heap.size+1,0,0,by(simp<;>omega),by simp,by simp,by simp,Or.inr (Or.inr (Or.inr (Or.inr (Or.inr (Or.inr (Or.inl ⟨h,rfl,?_,?_⟩))))))⟩,iq (iq (ir _ _))⟩
 all_goals (rw [World.cell?_of_block (hw2 _ (by(simp<;>omega)) (by(simp<;>omega)))];simp [go_sem])
theorem vq(t:Nat)(i:Ins)(h:i.op=11)(w:World):Calls Tryz.prog 121 #[.int .i64 t,.int .i64 i.a] w (Made w t i):=by
 have hmf:∀ (fn:Fn) (first cap:Array Value) (w:World),(Instr.makeFunc fn first cap).run Tryz.prog w= .ok (.func fn first cap) w:=fun _ _ _ _=>rfl
 have H:Hid (i.op=11):=h;clear h;go_enter Tryz.func121,Tryz.ntmps121
 go_wp2
 go_ret;have h:=H.out;refine⟨_,rfl,fun w2 hw2=>⟨w.heap.size,w.heap.size+1,0,0,by(simp<;>omega),by simp,by simp,by simp,Or.inr (Or.inr (Or.inr (Or.inr (Or.inr (Or.inr (Or.inr (Or.inr (⟨h,rfl,?_,?_⟩))))))))⟩,iq (iq (ir _ _))⟩
 all_goals (rw [World.cell?_of_block (hw2 _ (by(simp<;>omega)) (by(simp<;>omega)))];simp [go_sem])
theorem ur(t:Nat)(i:Ins)(h:i.op=10)(w:World):Calls Tryz.prog 120 #[.int .i64 t,.int .i64 i.a] w (Made w t i):=by
 have hmf:∀ (fn:Fn) (first cap:Array Value) (w:World),(Instr.makeFunc fn first cap).run Tryz.prog w= .ok (.func fn first cap) w:=fun _ _ _ _=>rfl
 have H:Hid (i.op=10):=h;clear h;go_enter Tryz.func120,Tryz.ntmps120
 go_wp2
 go_ret;have h:=H.out;refine⟨_,rfl,fun w2 hw2=>⟨w.heap.size,w.heap.size+1,0,0,by(simp<;>omega),by simp,by simp,by simp,Or.inr (Or.inr (Or.inr (Or.inr (Or.inr (Or.inr (Or.inr (Or.inl ⟨h,rfl,?_,?_,?_⟩)))))))⟩,iq (iq (ir _ _))⟩
 all_goals (rw [World.cell?_of_block (hw2 _ (by(simp<;>omega)) (by(simp<;>omega)))];simp [go_sem])
theorem Bw(t:Nat)(i:Ins)(h:i.op=4)(w:World):Calls Tryz.prog 113 #[.int .i64 t,.int .i64 i.a,.int .i64 i.b,.func (.func 114) #[] #[]] w (Made w t i):=by
 have hmf:∀ (fn:Fn) (first cap:Array Value) (w:World),(Instr.makeFunc fn first cap).run Tryz.prog w= .ok (.func fn first cap) w:=fun _ _ _ _=>rfl
 have H:Hid (i.op=4):=h;clear h;go_enter Tryz.func113,Tryz.ntmps113
 go_wp2
 go_ret;have h:=H.out;refine⟨_,rfl,fun w2 hw2=>⟨w.heap.size+3,w.heap.size,w.heap.size+1,w.heap.size+2,by(simp<;>omega),by(simp<;>omega),by(simp<;>omega),by(simp<;>omega),Or.inr (Or.inr (Or.inr (Or.inl ⟨_,Or.inl ⟨h,rfl⟩,rfl,?_,?_,?_,?_⟩)))⟩,iq (iq (iq (iq (ir _ _))))⟩
 all_goals (rw [World.cell?_of_block (hw2 _ (by(simp<;>omega)) (by(simp<;>omega)))];simp [go_sem])
theorem B0(t:Nat)(i:Ins)(h:i.op=5)(w:World):Calls Tryz.prog 113 #[.int .i64 t,.int .i64 i.a,.int .i64 i.b,.func (.func 115) #[] #[]] w (Made w t i):=by
 have hmf:∀ (fn:Fn) (first cap:Array Value) (w:World),(Instr.makeFunc fn first cap).run Tryz.prog w= .ok (.func fn first cap) w:=fun _ _ _ _=>rfl
 have H:Hid (i.op=5):=h;clear h;go_enter Tryz.func113,Tryz.ntmps113
 go_wp2
 go_ret;have h:=H.out;refine⟨_,rfl,fun w2 hw2=>⟨w.heap.size+3,w.heap.size,w.heap.size+1,w.heap.size+2,by(simp<;>omega),by(simp<;>omega),by(simp<;>omega),by(simp<;>omega),Or.inr (Or.inr (Or.inr (Or.inl ⟨_,Or.inr (Or.inl ⟨h,rfl⟩),rfl,?_,?_,?_,?_⟩)))⟩,iq (iq (iq (iq (ir _ _))))⟩
 all_goals (rw [World.cell?_of_block (hw2 _ (by(simp<;>omega)) (by(simp<;>omega)))];simp [go_sem])
theorem BM(t:Nat)(i:Ins)(h:i.op=6)(w:World):Calls Tryz.prog 113 #[.int .i64 t,.int .i64 i.a,.int .i64 i.b,.func (.func 116) #[] #[]] w (Made w t i):=by
 have hmf:∀ (fn:Fn) (first cap:Array Value) (w:World),(Instr.makeFunc fn first cap).run Tryz.prog w= .ok (.func fn first cap) w:=fun _ _ _ _=>rfl
 have H:Hid (i.op=6):=h;clear h;go_enter Tryz.func113,Tryz.ntmps113
 go_wp2
 go_ret;have h:=H.out;refine⟨_,rfl,fun w2 hw2=>⟨w.heap.size+3,w.heap.size,w.heap.size+1,w.heap.size+2,by(simp<;>omega),by(simp<;>omega),by(simp<;>omega),by(simp<;>omega),Or.inr (Or.inr (Or.inr (Or.inl ⟨_,Or.inr (Or.inr ⟨h,rfl⟩),rfl,?_,?_,?_,?_⟩)))⟩,iq (iq (iq (iq (ir _ _))))⟩
 all_goals (rw [World.cell?_of_block (hw2 _ (by(simp<;>omega)) (by(simp<;>omega)))];simp [go_sem])
theorem Made.grow{b w w':World}{t:Nat}{i:Ins}{e:Ending}(h:Made w t i e w')(a:b.grownBy w none):Made b t i e w':=by
 obtain⟨v,c,d,f⟩:=h;exact⟨v,c,fun w2 hw2=>d w2 fun k hk hk2=>hw2 k (Nat.le_trans a.size hk) hk2,il a f⟩
theorem re(t:Nat)(i:Ins)(h:i.op=1)(w:World):Calls Tryz.prog 79 #[.int .i64 t,.agg #[.int .i64 1,.int .i64 i.a,.int .i64 i.b,.int .i64 i.n]] w (Made w t i):=by
 have H:Hid (i.op=1):=h;clear h;go_enter Tryz.func79,Tryz.ntmps79
 go_wp2_with fail
 go_quiet (fail)
 go_wp2_with fail
 refine(BW t i H.out _).mono ?_;rintro e w1 ⟨v,rfl,c,d⟩;have f:=ij c;have j:=ij d;clear c d;go_wp2_with fail
 go_ret;exact Made.grow (w:=_) ⟨v,rfl,f.out,j.out⟩ (iO _ (iq (ir _ _)))
theorem rh(t:Nat)(i:Ins)(h:i.op=2)(w:World):Calls Tryz.prog 79 #[.int .i64 t,.agg #[.int .i64 2,.int .i64 i.a,.int .i64 i.b,.int .i64 i.n]] w (Made w t i):=by
 have H:Hid (i.op=2):=h;clear h;go_enter Tryz.func79,Tryz.ntmps79
 go_wp2_with fail
 go_quiet (fail)
 go_wp2_with fail
 refine(Az t i H.out _).mono ?_;rintro e w1 ⟨v,rfl,c,d⟩;have f:=ij c;have j:=ij d;clear c d;go_wp2_with fail
 go_ret;exact Made.grow (w:=_) ⟨v,rfl,f.out,j.out⟩ (iO _ (iq (ir _ _)))
theorem rl(t:Nat)(i:Ins)(h:i.op=3)(w:World):Calls Tryz.prog 79 #[.int .i64 t,.agg #[.int .i64 3,.int .i64 i.a,.int .i64 i.b,.int .i64 i.n]] w (Made w t i):=by
 have H:Hid (i.op=3):=h;clear h;go_enter Tryz.func79,Tryz.ntmps79
 go_wp2_with fail
 go_quiet (fail)
 go_wp2_with fail
 refine(zo t i H.out _).mono ?_;rintro e w1 ⟨v,rfl,c,d⟩;have f:=ij c;have j:=ij d;clear c d;go_wp2_with fail
 go_ret;exact Made.grow (w:=_) ⟨v,rfl,f.out,j.out⟩ (iO _ (iq (ir _ _)))
theorem rm(t:Nat)(i:Ins)(h:i.op=4)(w:World):Calls Tryz.prog 79 #[.int .i64 t,.agg #[.int .i64 4,.int .i64 i.a,.int .i64 i.b,.int .i64 i.n]] w (Made w t i):=by
 have H:Hid (i.op=4):=h;clear h;go_enter Tryz.func79,Tryz.ntmps79
 go_wp2_with fail
 go_quiet (fail)
 go_wp2_with fail
 refine(Bw t i H.out _).mono ?_;rintro e w1 ⟨v,rfl,c,d⟩;have f:=ij c;have j:=ij d;clear c d;go_wp2_with fail
 go_ret;exact Made.grow (w:=_) ⟨v,rfl,f.out,j.out⟩ (iO _ (iq (ir _ _)))
theorem rn(t:Nat)(i:Ins)(h:i.op=5)(w:World):Calls Tryz.prog 79 #[.int .i64 t,.agg #[.int .i64 5,.int .i64 i.a,.int .i64 i.b,.int .i64 i.n]] w (Made w t i):=by
 have H:Hid (i.op=5):=h;clear h;go_enter Tryz.func79,Tryz.ntmps79
 go_wp2_with fail
 go_quiet (fail)
 go_wp2_with fail
 refine(B0 t i H.out _).mono ?_;rintro e w1 ⟨v,rfl,c,d⟩;have f:=ij c;have j:=ij d;clear c d;go_wp2_with fail
 go_ret;exact Made.grow (w:=_) ⟨v,rfl,f.out,j.out⟩ (iO _ (iq (ir _ _)))
theorem ro(t:Nat)(i:Ins)(h:i.op=6)(w:World):Calls Tryz.prog 79 #[.int .i64 t,.agg #[.int .i64 6,.int .i64 i.a,.int .i64 i.b,.int .i64 i.n]] w (Made w t i):=by
 have H:Hid (i.op=6):=h;clear h;go_enter Tryz.func79,Tryz.ntmps79
 go_wp2_with fail
 go_quiet (fail)
 go_wp2_with fail
 refine(BM t i H.out _).mono ?_;rintro e w1 ⟨v,rfl,c,d⟩;have f:=ij c;have j:=ij d;clear c d;go_wp2_with fail
 go_ret;exact Made.grow (w:=_) ⟨v,rfl,f.out,j.out⟩ (iO _ (iq (ir _ _)))
theorem rp(t:Nat)(i:Ins)(h:i.op=7)(w:World):Calls Tryz.prog 79 #[.int .i64 t,.agg #[.int .i64 7,.int .i64 i.a,.int .i64 i.b,.int .i64 i.n]] w (Made w t i):=by
 have H:Hid (i.op=7):=h;clear h;go_enter Tryz.func79,Tryz.ntmps79
 go_wp2_with fail
 go_quiet (fail)
 go_wp2_with fail
 refine(vM t i H.out _).mono ?_;rintro e w1 ⟨v,rfl,c,d⟩;have f:=ij c;have j:=ij d;clear c d;go_wp2_with fail
 go_ret;exact Made.grow (w:=_) ⟨v,rfl,f.out,j.out⟩ (iO _ (iq (ir _ _)))
theorem rq(t:Nat)(i:Ins)(h:i.op=8)(w:World):Calls Tryz.prog 79 #[.int .i64 t,.agg #[.int .i64 8,.int .i64 i.a,.int .i64 i.b,.int .i64 i.n]] w (Made w t i):=by
 have H:Hid (i.op=8):=h;clear h;go_enter Tryz.func79,Tryz.ntmps79
 go_wp2_with fail
 go_quiet (fail)
 go_wp2_with fail
 refine(At t i H.out _).mono ?_;rintro e w1 ⟨v,rfl,c,d⟩;have f:=ij c;have j:=ij d;clear c d;go_wp2_with fail
 go_ret;exact Made.grow (w:=_) ⟨v,rfl,f.out,j.out⟩ (iO _ (iq (ir _ _)))
theorem rr(t:Nat)(i:Ins)(h:i.op=9)(w:World):Calls Tryz.prog 79 #[.int .i64 t,.agg #[.int .i64 9,.int .i64 i.a,.int .i64 i.b,.int .i64 i.n]] w (Made w t i):=by
 have H:Hid (i.op=9):=h;clear h;go_enter Tryz.func79,Tryz.ntmps79
 go_wp2_with fail
 go_quiet (fail)
 go_wp2_with fail
 refine(Bd t i H.out _).mono ?_;rintro e w1 ⟨v,rfl,c,d⟩;have f:=ij c;have j:=ij d;clear c d;go_wp2_with fail
 go_ret;exact Made.grow (w:=_) ⟨v,rfl,f.out,j.out⟩ (iO _ (iq (ir _ _)))
theorem pD(t:Nat)(i:Ins)(h:i.op=10)(w:World):Calls Tryz.prog 79 #[.int .i64 t,.agg #[.int .i64 10,.int .i64 i.a,.int .i64 i.b,.int .i64 i.n]] w (Made w t i):=by
 have H:Hid (i.op=10):=h;clear h;go_enter Tryz.func79,Tryz.ntmps79
 go_wp2_with fail
 go_quiet (fail)
 go_wp2_with fail
 refine(ur t i H.out _).mono ?_;rintro e w1 ⟨v,rfl,c,d⟩;have f:=ij c;have j:=ij d;clear c d;go_wp2_with fail
 go_ret;exact Made.grow (w:=_) ⟨v,rfl,f.out,j.out⟩ (iO _ (iq (ir _ _)))
theorem pE(t:Nat)(i:Ins)(h:i.op=11)(w:World):Calls Tryz.prog 79 #[.int .i64 t,.agg #[.int .i64 11,.int .i64 i.a,.int .i64 i.b,.int .i64 i.n]] w (Made w t i):=by
 have H:Hid (i.op=11):=h;clear h;go_enter Tryz.func79,Tryz.ntmps79
 go_wp2_with fail
 go_quiet (fail)
 go_wp2_with fail
 refine(vq t i H.out _).mono ?_;rintro e w1 ⟨v,rfl,c,d⟩;have f:=ij c;have j:=ij d;clear c d;go_wp2_with fail
 go_ret;exact Made.grow (w:=_) ⟨v,rfl,f.out,j.out⟩ (iO _ (iq (ir _ _)))
theorem rs(t:Nat)(i:Ins)(h1:1<=i.op)(h2:i.op<=11)(w:World):Calls Tryz.prog 79 #[.int .i64 t,.agg #[.int .i64 i.op,.int .i64 i.a,.int .i64 i.b,.int .i64 i.n]] w (Made w t i):=by
 have hc:i.op=1\/i.op=2\/i.op=3\/i.op=4\/i.op=5\/i.op=6\/i.op=7\/i.op=8\/i.op=9\/i.op=10\/i.op=11:=by omega
 rcases hc with e | e | e | e | e | e | e | e | e | e | e
 ·rw [e];exact re t i e w
 ·rw [e];exact rh t i e w
 ·rw [e];exact rl t i e w
 ·rw [e];exact rm t i e w
 ·rw [e];exact rn t i e w
 ·rw [e];exact ro t i e w
 ·rw [e];exact rp t i e w
 ·rw [e];exact rq t i e w
 ·rw [e];exact rr t i e w
 ·rw [e];exact pD t i e w
 ·rw [e];exact pE t i e w
theorem tS{w:World}{g:Nat}{x0 x1 x2 x3:Value}{t:TypeId}(h:w.heap[g]?=some (.cells #[x0,x1,x2,x3] t (0,0))):
  w.cell? ⟨g,0,none⟩=some x0/\w.cell? ⟨g,1,none⟩=some x1/\w.cell? ⟨g,2,none⟩=some x2/\w.cell? ⟨g,3,none⟩=some x3/\(∀ o,w.frozen? ⟨g,o,none⟩=false):=by
 simp [World.cell?,World.frozen?,h]
def MoveMade(w:World)(t:Nat)(i:Ins)(e:Ending)(w':World):Prop:=
 ∃ kf caps,e= .returned (.agg #[.func (.func kf) #[] caps,.bool (i.op==9),.int .i64 (if i.op=9 then i.a else 0)])/\(∀ w2:World,(∀ k,w.heap.size<=k->k<w'.heap.size->w2.heap[k]?=w'.heap[k]?)->ActIs w'.heap.size w2 (.func (.func kf) #[] caps) t i)/\w.grownBy w' none
theorem ActIs.form{B:Nat}{w:World}{v:Value}{t:Nat}{i:Ins}(h:ActIs B w v t i):∃ kf caps,v= .func (.func kf) #[] caps:=by
 obtain⟨x,y,z,u,_,_,_,_,h⟩:=h;rcases h with ⟨_,e,_⟩ | ⟨_,e,_⟩ | ⟨_,e,_⟩ | ⟨_,_,e,_⟩ | ⟨_,e,_⟩ | ⟨_,e,_⟩ | ⟨_,e,_⟩ | ⟨_,e,_⟩ | ⟨_,e,_⟩<;>exact⟨_,_,e⟩
theorem uh(t:Nat)(i:Ins)(F:1<=i.op)(G:i.op<=11)(w:World):Calls Tryz.prog 49 #[.int .i64 t,.agg #[.int .i64 i.op,.int .i64 i.a,.int .i64 i.b,.int .i64 i.n]] w (MoveMade w t i):=by
 go_enter Tryz.func49,Tryz.ntmps49
 go_wp2_with fail
 refine(rs t i F G _).mono ?_;rintro e d ⟨v,rfl,m,f⟩;obtain⟨j,h,rfl⟩:=(m d fun _ _ _=>rfl).form;have r:=ij m;have C:=ij f;have hsz:w.heap.size+2<=d.heap.size:=by have:=f.size;simpa using this
 have A:d.heap[w.heap.size]?=some (.cells #[.int .i64 i.op,.int .i64 i.a,.int .i64 i.b,.int .i64 i.n] 65 (0,0)):=by
  rw [f.block _ (by simp;omega) (by simp),Below.heap_alloc _ _ _ (by simp)];exact heap_alloc_new w _
 have B:d.heap[w.heap.size+1]?=some (.cells #[.nilFunc,.bool false,.int .i64 0] 115 (0,0)):=by
  rw [f.block _ (by simp) (by simp)];have:=heap_alloc_new (w.alloc (.cells #[.int .i64 i.op,.int .i64 i.a,.int .i64 i.b,.int .i64 i.n] 65)) (.cells #[.nilFunc,.bool false,.int .i64 0] 115);simpa using this
 clear m f;obtain⟨c0,c1,D,E,_⟩:=tS A;obtain⟨u,x,y,z⟩:=jS B;have dfa:∀ (o:Obj) (k:Nat),(d.alloc o).frozen? ⟨w.heap.size+1,k,none⟩=false:=fun o k=>by
  rw [World.frozen?_alloc_old _ _ _ (by simp;omega)];exact z k
 clear z A B D E;have s:Hid (w.grownBy d none):=il (iq (iq (ir _ _))) C.out;by_cases c:i.op=9
 ·have l:=ij c;have p:(i.op==9)=true:=by simpa using c
  clear c;go_wp2_with fail
  refine bodyPost_ret (v:= .agg #[.func (.func j) #[] h,.bool true,.int .i64 i.a]) ?_ rfl ⟨j,h,?_,?_,?_⟩
  ·simp [results,Tryz.results49,go_sem,u,x,y]
  ·rw [p,if_pos l.out]
  ·intro I q;refine(r.out _ fun k hk hk2=>?_).mono (by simp);rw [q k (by simp at hk;omega) (by simp;omega)];have H:w.heap.size+2<=k:=by simpa using hk
   rw [Below.heap_setCell _ _ _ _ (by simp;omega),Below.heap_setCell _ _ _ _ (by simp;omega),Below.heap_setCell _ _ _ _ (by simp;omega),Below.heap_alloc _ _ _ hk2]
  ·iterate 3 refine iD ?_ (by omega)
   exact iq s.out
 ·have l:=ij c;have p:(i.op==9)=false:=by simpa using c
  clear c;go_wp2_with fail
  refine bodyPost_ret (v:= .agg #[.func (.func j) #[] h,.bool false,.int .i64 0]) ?_ rfl ⟨j,h,?_,?_,?_⟩
  ·simp [results,Tryz.results49,go_sem,u,x,y]
  ·rw [p,if_neg l.out]
  ·intro I q;refine(r.out _ fun k hk hk2=>?_).mono (by simp);rw [q k (by simp at hk;omega) (by simp;omega)];have H:w.heap.size+2<=k:=by simpa using hk
   rw [Below.heap_setCell _ _ _ _ (by simp;omega),Below.heap_setCell _ _ _ _ (by simp;omega),Below.heap_setCell _ _ _ _ (by simp;omega),Below.heap_alloc _ _ _ hk2]
  ·iterate 3 refine iD ?_ (by omega)
   exact iq s.out
def moveV(kf:Nat)(caps:Array Value)(i:Ins):List Value:=[.func (.func kf) #[] caps,.bool (i.op==9),.int .i64 (if i.op=9 then i.a else 0)]
def ActSt(a b:Nat)(w:World)(v:Value)(t:Nat)(i:Ins):Prop:=∀ w':World,(∀ k,a<=k->k<b->w'.heap[k]?=w.heap[k]?)->ActIs b w' v t i
def MovesIn(L B:Nat)(w:World)(own:Option Nat)(xs:List Value)(t:Nat)(c:List Ins):Prop:=
 ∀ k (hk:k<c.length),∃ kf caps a b,xs[k*3]?=some (.func (.func kf) #[] caps)/\xs[k*3+1]?=some (.bool (c[k].op==9))/\xs[k*3+2]?=some (.int .i64 (if c[k].op=9 then c[k].a else 0))/\
  L<=a/\b<=B/\(∀ h,own=some h->h<a\/b<=h)/\ActSt a b w (.func (.func kf) #[] caps) t c[k]
theorem MovesIn.step{L B:Nat}{w w':World}{own r:Option Nat}{xs:List Value}{t:Nat}{c:List Ins}(h:MovesIn L B w own xs t c)(hB:B<=w.heap.size)(p:w.grownBy w' r)(u:∀ q,r=some q->own=some q\/q<L\/B<=q):MovesIn L B w' own xs t c:=by
 intro k s;obtain⟨v,f,a,b,i,j,l,m,n,d,o⟩:=h k s;refine⟨v,f,a,b,i,j,l,m,n,d,fun w2 hw2=>o w2 fun q hq hq2=>?_⟩;rw [hw2 q hq hq2,p.block q (by omega) (fun e=>by
  rcases u q e.symm with e2 | e2 | e2
  ·rcases d q e2 with e3 | e3<;>omega
  ·omega
  ·omega)]
theorem MovesIn.mono{L B d:Nat}{w:World}{own:Option Nat}{xs:List Value}{t:Nat}{c:List Ins}(h:MovesIn L B w own xs t c)(hB:B<=d):MovesIn L d w own xs t c:=by
 intro k o;obtain⟨p,e,a,b,f,i,j,l,h5,m,n⟩:=h k o;exact⟨p,e,a,b,f,i,j,l,by omega,m,n⟩
theorem MovesIn.reown{L B g:Nat}{w:World}{own:Option Nat}{xs:List Value}{t:Nat}{c:List Ins}(h:MovesIn L B w own xs t c)(p:own=some g\/B<=g):MovesIn L B w (some g) xs t c:=by
 intro k r;obtain⟨s,d,a,b,f,i,j,l,m,n,o⟩:=h k r;refine⟨s,d,a,b,f,i,j,l,m,fun q e=>?_,o⟩;cases e
 rcases p with e | e
 ·exact n _ e
 ·exact Or.inr (by omega)
theorem MovesIn.snoc{L B:Nat}{w:World}{own:Option Nat}{xs:List Value}{t:Nat}{c:List Ins}{i:Ins}{j:Nat}{d:Array Value}{a b:Nat}(h:MovesIn L B w own xs t c)(f:xs.length=c.length*3)
  (x:L<=a) (y:b<=B) (A:∀ h,own=some h->h<a\/b<=h) (v:ActSt a b w (.func (.func j) #[] d) t i):
  MovesIn L B w own (xs++moveV j d i) t (c++[i]):=by
 intro k z;by_cases l:k<c.length
 ·obtain⟨C,o,m,n,q,r,s,u⟩:=h k l;have e:(c++[i])[k]=c[k]:=List.getElem_append_left l;refine⟨C,o,m,n,?_,?_,?_,?_⟩
  ·rw [List.getElem?_append_left (by omega)];exact q
  ·rw [List.getElem?_append_left (by omega),e];exact r
  ·rw [List.getElem?_append_left (by omega),e];exact s
  ·rw [e];exact u
 ·have p:k=c.length:=by simp at z;omega
  subst p;have e:(c++[i])[c.length]=i:=by simp
  refine⟨j,d,a,b,?_,?_,?_,x,y,A,?_⟩
  ·rw [List.getElem?_append_right (by omega),f];simp [moveV]
  ·rw [List.getElem?_append_right (by omega),f,e];have:c.length*3+1 - c.length*3=1:=by omega
   rw [this];rfl
  ·rw [List.getElem?_append_right (by omega),f,e];have:c.length*3+2 - c.length*3=2:=by omega
   rw [this];rfl
  ·rw [e];exact v
def Fin(L B:Nat)(w:World)(rows:Array Value)(t:Nat)(p:List (List Ins)):Prop:=
 ∀ j,j<t->∃ v xs,rows[j]?=some v/\w.ownsRow L 115 3 v (codeOf p j).length xs/\(∀ h,v.ownBlock=some h->h<B)/\MovesIn L B w v.ownBlock xs j (codeOf p j)
theorem Fin.step{L B:Nat}{w w':World}{rows:Array Value}{t:Nat}{p:List (List Ins)}{r:Option Nat}(h:Fin L B w rows t p)(m:B<=w.heap.size)(c:w.grownBy w' r)(d:∀ k,r=some k->k<L\/B<=k):Fin L B w' rows t p:=by
 intro j n;obtain⟨v,xs,f,i,b,l⟩:=h j n;refine⟨v,xs,f,?_,b,l.step m c (fun q e=>Or.inr (d q e))⟩;obtain⟨s,a⟩:=i;refine⟨s,?_⟩;rcases a with a | ⟨g,cap,cur,hv,hb,hh,rest⟩
 ·exact Or.inl a
 ·have o:g<w.heap.size:=(Array.getElem?_eq_some_iff.1 hh).1;have hB:=b g (by rw [hv];rfl);refine Or.inr ⟨g,cap,cur,hv,hb,?_,rest⟩;rw [c.block g o (fun e=>by have:=d g e.symm;omega)];exact hh
theorem Fin.rows{L B:Nat}{w:World}{rows:Array Value}{t u:Nat}{x:Value}{p:List (List Ins)}(h:Fin L B w rows t p)(hu:t<=u):Fin L B w (rows.setIfInBounds u x) t p:=by
 intro j e;obtain⟨v,xs,a,b,c,d⟩:=h j e;exact⟨v,xs,by rw [Array.getElem?_setIfInBounds_ne (by omega)];exact a,b,c,d⟩
theorem Fin.mono{L B a:Nat}{w:World}{rows:Array Value}{t:Nat}{p:List (List Ins)}(h:Fin L B w rows t p)(b:B<=a):Fin L a w rows t p:=by
 intro j k;obtain⟨v,xs,c,d,f,i⟩:=h j k;exact⟨v,xs,c,d,fun h e=>Nat.lt_of_lt_of_le (f h e) b,i.mono b⟩
theorem Fin.succ{L B:Nat}{w:World}{rows:Array Value}{t:Nat}{p:List (List Ins)}{v:Value}{xs:List Value}(h:Fin L B w rows t p)(a:rows[t]?=some v)(b:w.ownsRow L 115 3 v (codeOf p t).length xs)
  (c:∀ h,v.ownBlock=some h->h<B) (d:MovesIn L B w v.ownBlock xs t (codeOf p t)):Fin L B w rows (t+1) p:=by
 intro j hj;by_cases e:j=t
 ·subst e;exact⟨v,xs,a,b,c,d⟩
 ·exact h j (by omega)
theorem Fin.rowIs{L B:Nat}{w:World}{rows:Array Value}{t:Nat}{p:List (List Ins)}(h:Fin L B w rows t p){j:Nat}(d:j<t):∃ v,rows[j]?=some v/\RowIs B w v j (codeOf p j):=by
 obtain⟨v,xs,i,c,l,m⟩:=h j d;refine⟨v,i,?_⟩;rcases c.2 with ⟨e,e0⟩ | ⟨g,cap,cur,hv,hb,hh,hrest⟩
 ·exact Or.inl ⟨List.length_eq_zero_iff.1 e0,e⟩
 ·refine Or.inr ⟨g,cap,hv,l g (by rw [hv];rfl),fun k hk=>?_⟩;obtain⟨n,f,a,b,o,q,r,q4,s,q6,u⟩:=m k hk;rw [hv]at c;have hc:=fun j d=>c.cellAt j d
  exact⟨n,f,by rw [hc _ (by omega)];exact o,(u w fun _ _ _=>rfl).mono s,by rw [hc _ (by omega)];exact q,by rw [hc _ (by omega)];exact r⟩
theorem wk:((Tryz.prog.info? 115).map fun i=>(i.zero,i.size,i.bytes))=some (some (.agg #[.nilFunc,.bool false,.int .i64 0]),3,24):=by kernel_rfl
theorem ym:((Tryz.prog.info? 111).map fun i=>(i.zero,i.size,i.bytes))=some (some (.slice none 0 0),1,24):=by kernel_rfl
end
end Go.Proofs.YtklenjmfalljgabGreatDoor
