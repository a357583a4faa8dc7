/- The texts End Fol Run Val Mk Mk2 New. -/
import Derived.Test.YtklenjmfalljgabGreatDoorM00
import Derived.Deep.AppendLies
import Derived.OwnWalk
import Derived.Laws.CopyRow
namespace Go.Proofs.YtklenjmfalljgabGreatDoor
set_option maxRecDepth 100000
set_option maxHeartbeats 8000000
section
open Go.RowKit
def oL(p:List (List Ins))(s:St)(k:Nat):Int:=if (List.range k).all (jS p s) then 3 else 4
theorem xU(p:List (List Ins))(s:St)(k:Nat):oL p s (k+1)=if jS p s k=true then oL p s k else 4:=by
 unfold oL;rw [List.range_succ,List.all_append];by_cases h:jS p s k=true<;>simp [h]
theorem rK{p:List (List Ins)}{s:St}{k:Nat}(a:k<p.length)(h:jF p s k=true):jR p s=5:=by
 unfold jR;rw [if_pos];exact List.any_eq_true.2 ⟨k,List.mem_range.2 a,h⟩
theorem tu{p:List (List Ins)}{s:St}(h:∀ k,k<p.length->jF p s k=false):jR p s=oL p s p.length:=by
 unfold jR oL;rw [if_neg];intro hc;obtain⟨k,b,a⟩:=List.any_eq_true.1 hc;rw [h k (List.mem_range.1 b)]at a;cases a
theorem C5{B m b:Nat}{w:World}{p:List (List Ins)}{s:St}(l:iV p=true)(y:MachAt B w m p)(hB:B<=b)(h:StAt w b s)(z:Inv p s):
  Calls Tryz.prog 83 #[.pointer (some ⟨m,0,none⟩),.pointer (some ⟨b,0,none⟩)] w
   fun e w'=>e= .returned (.int .i64 (jR p s))/\w.grownBy w' none:=by
 have hb:=h.lt;have hlen:=jA l;have x:Hid (MachAt B w m p):=y;have u:Hid (StAt w b s):=h;have E:Hid (Inv p s):=z;have o:Hid (iV p=true):=l;obtain⟨g,cap,G,H,h1,D⟩:=y;have h3:(p.length:Int)<=4:=by omega
 clear D h z l G H;go_enter Tryz.func83,Tryz.ntmps83
 go_wp2
 go_loopw [5,12] (fun e i w'=>∃ k:Nat,k<=p.length/\i= .int .i64 k/\e= .int .i64 (oL p s k)/\Hid (w.grownBy w' none)/\Hid (∀ j,j<k->jF p s j=false)) (fun _ i _=>p.length - (intOf i).toNat)
 case atStart=>exact⟨0,Nat.zero_le _,rfl,rfl,iu _ _,fun j hj=>by omega⟩
 case round=>
  obtain⟨k,hk,rfl,rfl,c,t⟩:=hrel;by_cases f:k<p.length
  ·go_wp2_with fail
   refine(zB o.out (x.out.grown' (by omega) c.out) (u.out.grown c.out) E.out f).mono ?_;rintro e F ⟨rfl,n⟩;have a:Hid (w.grownBy F none):=ip c.out n;clear n;cases hr:jF p s k
   ·go_wp2_with fail
    refine(Fh o.out (x.out.grown' (by omega) a.out) (u.out.grown a.out) f).mono ?_;rintro e C ⟨rfl,q⟩;have A:Hid (w.grownBy C none):=ip a.out q;clear q;have v:Hid (oL p s (k+1)=if jS p s k=true then oL p s k else 4):=xU p s k;have r:Hid (∀ j,j<k+1->jF p s j=false):=fun j hj=>by
     by_cases e:j=k
     ·rw [e];exact hr
     ·exact t.out j (by omega)
    clear hr;cases hd:jS p s k
    ·go_wp2
     go_roundw
     case rel=>exact⟨k+1,by omega,by go_num,by rw [v.out,hd];rfl,A,r⟩
     case measure=>simp [intOf];omega
    ·go_wp2
     go_roundw
     case rel=>exact⟨k+1,by omega,by go_num,by rw [v.out,hd];rfl,A,r⟩
     case measure=>simp [intOf];omega
   ·have d:Hid (jR p s=5):=rK f hr;clear hr;go_wp2
    go_ret;exact⟨by rw [d.out];rfl,a⟩
  ·have e:k=p.length:=by omega
   have d:Hid (jR p s=oL p s k):=by rw [e];exact tu (fun j hj=>t.out j (by omega))
   clear e;go_wp2
   go_ret;exact⟨by rw [d.out];rfl,c⟩
theorem pX(x n:Int)(w:World):Calls Tryz.prog 80 #[.int .i64 x,.int .i64 n] w fun e w'=>e= .returned (.bool (jE x n))/\w'=w:=by
 by_cases a:0<=x
 ·by_cases b:x<n
  ·have HB:Hid (jE x n=true):=by unfold Hid;simp [jE,a,b]
   go_enter Tryz.func80,Tryz.ntmps80
   go_wp2
   go_ret;exact⟨by rw [HB.out];rfl,rfl⟩
  ·have HB:Hid (jE x n=false):=by unfold Hid;simp [jE,a,b]
   have c:n<=x:=by omega
   go_enter Tryz.func80,Tryz.ntmps80
   go_wp2
   go_ret;exact⟨by rw [HB.out];rfl,rfl⟩
 ·have HB:Hid (jE x n=false):=by unfold Hid;simp [jE,a]
  have c:x<0:=by omega
  go_enter Tryz.func80,Tryz.ntmps80
  go_wp2
  go_ret;exact⟨by rw [HB.out];rfl,rfl⟩
def IntsAt(B:Nat)(w:World)(v:Value)(l:List Int):Prop:=
 ∃ ao cap,v= .slice ao l.length cap/\l.length<=cap/\∀ k (hk:k<l.length),∃ g o,ao=some ⟨g,o,none⟩/\g<B/\w.cell? ⟨g,o+k,none⟩=some (.int .i64 l[k])
def iS(acc:List (Int × Int)):List Value:=acc.flatMap fun x=>[.int .i64 x.1,.int .i64 x.2]
theorem nw(acc:List (Int × Int))(x:Int × Int):iS (acc++[x])=iS acc++[.int .i64 x.1,.int .i64 x.2]:=by simp [iS]
theorem iE{w w':World}{base:Nat}{e:TypeId}{b:Nat}{v:Value}{n:Nat}{xs:List Value}{r:Option Nat}(h:w.ownsRow base e b v n xs)(i:w.grownBy w' r)(d:∀ k,r=some k->k<base):w'.ownsRow base e b v n xs:=by
 obtain⟨c,a⟩:=h;refine⟨c,?_⟩;rcases a with a | ⟨g,cap,cur,hv,hb,hh,rest⟩
 ·exact Or.inl a
 ·have f:g<w.heap.size:=(Array.getElem?_eq_some_iff.1 hh).1;refine Or.inr ⟨g,cap,cur,hv,hb,?_,rest⟩;rw [i.block g f (fun e=>by have:=d g e.symm;omega)];exact hh
theorem iB{w:World}{base:Nat}{e:TypeId}{b:Nat}{v:Value}{n:Nat}{xs:List Value}(h:w.ownsRow base e b v n xs):∀ k,v.ownBlock=some k->base<=k:=by
 rcases h.2 with ⟨e1,_⟩ | ⟨g,cap,cur,hv,hb,_⟩
 ·intro k a;rw [e1]at a;cases a
 ·intro k a;rw [hv]at a;simp [Value.ownBlock]at a;omega
theorem un:((Tryz.prog.info? 76).map fun i=>(i.zero,i.size,i.bytes))=some (some (.agg #[.int .i64 0,.int .i64 0]),2,16):=by kernel_rfl
theorem iR{w:World}{base a:Nat}{e:TypeId}{b:Nat}{v:Value}{n:Nat}{xs:List Value}(h:w.ownsRow base e b v n xs)(hb:a<=base):w.ownsRow a e b v n xs:=by
 obtain⟨i,d⟩:=h;refine⟨i,d.imp id ?_⟩;rintro⟨g,j,cur,f,hg,c⟩;exact⟨g,j,cur,f,by omega,c⟩
theorem iG{w w':World}{r:Option Nat}{g o:Nat}{v:Value}(h:w.grownBy w' r)(hg:w.heap.size<=g):w.grownBy (w'.setCell ⟨g,o,none⟩ v) r:=
 ⟨h.os,h.tape,h.output,by simpa using h.size,fun k hk hr=>by rw [Below.heap_setCell _ _ _ _ (by simp;omega)];exact h.block k hk hr⟩
theorem StAt.setOther{w:World}{b:Nat}{s:St}{g o:Nat}{v:Value}(h:StAt w b s)(a:b≠g):StAt (w.setCell ⟨g,o,none⟩ v) b s:=by
 unfold StAt at*;rw [Below.heap_setCell _ _ _ _ (by simpa using a)];exact h
theorem o7{w w':World}{r:Option Nat}{o:Obj}(h:(w.alloc o).grownBy w' r):w.grownBy w' r:=ip (ir (iu w r)) h
theorem pi{w w':World}{b:Nat}{o:Obj}(h:(w.alloc o).grownBy w' (some b))(hb:b<w.heap.size):w'.heap[w.heap.size]?=some o:=by
 rw [h.block w.heap.size (by simp) (by simp;omega)];show (w.heap.push o)[w.heap.size]?=some o
 simp
theorem lU{w w':World}{r:Option Nat}(h:w.grownBy w' none):w.grownBy w' r:=⟨h.os,h.tape,h.output,h.size,fun k hk _=>h.block k hk (by simp)⟩
theorem jH{w0 w w':World}{r:Option Nat}{v:Value}(h:w0.grownBy w r)(hg:w.grownBy w' v.ownBlock)(hv:∀ k,v.ownBlock=some k->w0.heap.size<=k):w0.grownBy w' r:=
 ⟨hg.os.trans h.os,hg.tape.trans h.tape,hg.output.trans h.output,Nat.le_trans h.size hg.size,fun k hk hr=>by
  rw [hg.block k (Nat.lt_of_lt_of_le hk h.size) (fun e=>by have:=hv k e.symm;omega)];exact h.block k hk hr⟩
theorem StAt.rowGrown{w w':World}{b:Nat}{s:St}{v:Value}(h:StAt w b s)(d:w.grownBy w' v.ownBlock)(a:∀ k,v.ownBlock=some k->b<k):StAt w' b s:=by
 have c:=h.lt;unfold StAt at*;rw [d.block b c (fun e=>by have:=a b e.symm;omega)];exact h
theorem iK{w:World}{base:Nat}{e:TypeId}{size:Nat}{v:Value}{n:Nat}{xs:List Value}{o:Obj}(h:w.ownsRow base e size v n xs):(w.alloc o).ownsRow base e size v n xs:=
 iE h (ir (iu w none)) (fun _ e=>by cases e)
theorem l8{w:World}{g:Nat}{x y z:Value}{t:TypeId}(h:w.heap[g]?=some (.cells #[x,y,z] t (0,0))):
  w.cell? ⟨g,0,none⟩=some x/\w.cell? ⟨g,1,none⟩=some y/\w.cell? ⟨g,2,none⟩=some z/\(∀ o,w.frozen? ⟨g,o,none⟩=false):=by
 simp [World.cell?,World.frozen?,h]
def Bw(w:World)(b:Nat)(o:Out)(e:Ending)(w':World):Prop:=
 ∃ sv,e= .returned (.tuple #[sv,.agg #[.int .i64 o.kind,.int .i64 o.thread,.int .i64 o.at_]])/\w'.ownsRow w.heap.size 76 2 sv o.steps.length (iS o.steps)/\
  StAt w' b o.st/\w.grownBy w' (some b)
theorem Di{B m b:Nat}{w:World}{p:List (List Ins)}{j:St}{v:Value}{c:List Int}(hp:iV p=true)(hM:MachAt B w m p)(N:B<=b)(X:StAt w b j)(hI:Inv p j)
  (hv:IntsAt B w v c) (h500:c.length<=500):
  Calls Tryz.prog 50 #[.pointer (some ⟨m,0,none⟩),.pointer (some ⟨b,0,none⟩),v] w (Bw w b (je p c 0 j [])):=by
 obtain⟨i0,S,ad,ax,am⟩:=info_parts un;obtain⟨ao,cap,rfl,hcap,av⟩:=hv;have M:=X.lt;have hlen:=jA hp;have HM:Hid (MachAt B w m p):=hM;have HS:Hid (StAt w b j):=X;have HI:Hid (Inv p j):=hI;have P:Hid (iV p=true):=hp;have HC:Hid (∀ k (hk:k<c.length),∃ g o,ao=some ⟨g,o,none⟩/\g<B/\w.cell? ⟨g,o+k,none⟩=some (.int .i64 c[k])):=av;obtain⟨g,a5,hm,hg,h1,h2⟩:=hM;have h3:(p.length:Int)<=4:=by omega
 have h4:(c.length:Int)<=500:=by omega
 clear h2 X hI hp av;have HI0:Hid (Tryz.prog.info? 76=some i0):=S;have HZ0:=ad;go_enter Tryz.func50,Tryz.ntmps50
 go_wp2_with (at_make;refine wpList_make_own _ rfl _ _ _ rfl (w.heap.size+1) 76 i0 _ 2 Tryz.underlying27 S ad ax .i64 .i64 _ c.length rfl rfl rfl (by rw [am];omega) (by unfold maxLen;omega) (by simp) ?_;intro U al V)
 have aq:Hid (U.ownsRow (w.heap.size+1) 76 2 (.slice (some ⟨w.heap.size+1,0,none⟩) 0 c.length) 0 []):=by unfold Hid;simpa using al
 have aC:Hid ((w.alloc (.cells #[.int .i64 0,.int .i64 0,.int .i64 0] 26)).grownBy U (some b)):=lU V;have ai:=(show Hid _ from V);clear al V;go_loopw [8,17] (fun sv i w'=>∃ (k:Nat) (s:St) (f:List (Int × Int)),k<=c.length/\i= .int .i64 k/\f.length=k/\Hid (w'.ownsRow (w.heap.size+1) 76 2 sv k (iS f))/\
   Hid (StAt w' b s)/\Hid (Inv p s)/\Hid ((w.alloc (.cells #[.int .i64 0,.int .i64 0,.int .i64 0] 26)).grownBy w' (some b))/\
   Hid (je p c 0 j []=je p (c.drop k) k s f)) (fun _ i _=>c.length - (intOf i).toNat)
 case atStart=>
  refine⟨0,j,[],Nat.zero_le _,rfl,rfl,aq,?_,HI,aC,rfl⟩;have hh:U.heap[b]?=w.heap[b]?:=by rw [ai.out.block b (by simp;omega) (by simp),Below.heap_alloc _ _ _ (by omega)]
  have aK:=HS.out;unfold StAt at*;unfold Hid;rw [hh];exact aK
 case round=>
  clear aq aC ai;obtain⟨k,s,f,hk,rfl,I,O,H,Q,z,J⟩:=hrel;have u:=pi z.out M;obtain⟨n,q,l,d⟩:=l8 u;have D:=d 0;have C:=d 1;have E:=d 2;have HV:Hid (∀ o,wr.frozen? ⟨w.heap.size,o,none⟩=false):=d;clear d u;have aM:w.heap.size+1<=wr.heap.size:=by have:=z.out.size;simpa using this
  have R:Hid (MachAt B wr m p):=(HM.out.grown' (by omega) (ir (iu w none))).grown N (by simp;omega) z.out;by_cases aE:k<c.length
  ·obtain⟨gb,go,rfl,hgb,hc⟩:=HC.out k aE;have aR:wr.cell? ⟨gb,go+k,none⟩=some (.int .i64 c[k]):=by
    rw [z.out.cell_far _ (by simp;omega) (by simp;omega),World.cell?_alloc_lt _ _ _ (by simp;omega)];exact hc
   clear hc;have K:Hid (c.drop k=c[k]::c.drop (k+1)):=List.drop_eq_getElem_cons aE;generalize c[k]=t at*;have aO:wr.cell? ⟨m,0,none⟩=some (.slice (some ⟨g,0,none⟩) p.length a5):=by
    rw [z.out.cell_far _ (by simp;omega) (by simp;omega),World.cell?_alloc_lt _ _ _ (by simp;omega)];exact h1
   have hk0:(0:Int)<=(k:Int):=by omega
   have hk1:(k:Int)<c.length:=by omega
   have hk2:(k:Int)<500:=by omega
   go_wp2_with fail
   refine(pX t p.length wr).mono ?_;rintro e h ⟨rfl,rfl⟩;cases hbl:jE t p.length
   ·have y:Hid (je p c 0 j []=⟨f,2,0,k,s⟩):=by
     unfold Hid;rw [J.out,K.out];exact kq _ _ _ _ _ _ (by simp [mZ,hbl])
    clear hbl;go_wp2
    rw [y.out];exact bodyPost_ret (v:= .tuple #[u8,.agg #[.int .i64 2,.int .i64 0,.int .i64 k]]) (by simp [results,Tryz.results50,go_sem,n,q,l]) rfl
     ⟨u8,rfl,by rw [I];exact iR (ownsRow_setCell_below (ownsRow_setCell_below (ownsRow_setCell_below O.out (by simp) _) (by simp) _) (by simp) _) (by omega),((H.out.setOther (by omega)).setOther (by omega)).setOther (by omega),iG (iG (iG (o7 z.out) (by omega)) (by omega)) (by omega)⟩
   ·have ht:0<=t/\t<p.length:=by simpa [jE]using hbl
    obtain⟨a,rfl⟩:=Int.eq_ofNat_of_zero_le ht.1;have T:a<p.length:=by omega
    have HT:Hid (jE (a:Int) p.length=true):=hbl;clear hbl ht;go_wp2_with fail
    refine(zB P.out R.out H.out Q.out T).mono ?_;rintro e h ⟨rfl,x⟩;have A:Hid ((w.alloc (.cells #[.int .i64 0,.int .i64 0,.int .i64 0] 26)).grownBy h (some b)):=ip z.out (lU x);have G:Hid (h.ownsRow (w.heap.size+1) 76 2 u8 k (iS f)):=iE O.out x (fun _ e=>by cases e);have F:Hid (StAt h b s):=H.out.grown x;have aT:Hid (MachAt B h m p):=R.out.grown' (by omega) x;have hsz1:w.heap.size+1<=h.heap.size:=by have:=A.out.size;simpa using this
    clear n q l D C E HV aR aO x R H O z aM;have u:=pi A.out M;obtain⟨n,q,l,d⟩:=l8 u;have D:=d 0;have C:=d 1;have E:=d 2;clear d u;cases hrd:jF p s a
    ·have y:Hid (je p c 0 j []=⟨f,2,0,k,s⟩):=by
      unfold Hid;rw [J.out,K.out];exact kq _ _ _ _ _ _ (by simp [mZ,hrd])
     clear hrd;go_wp2
     rw [y.out];exact bodyPost_ret (v:= .tuple #[u8,.agg #[.int .i64 2,.int .i64 0,.int .i64 k]]) (by simp [results,Tryz.results50,go_sem,n,q,l]) rfl
      ⟨u8,rfl,by rw [I];exact iR (ownsRow_setCell_below (ownsRow_setCell_below (ownsRow_setCell_below G.out (by simp) _) (by simp) _) (by simp) _) (by omega),((F.out.setOther (by omega)).setOther (by omega)).setOther (by omega),iG (iG (iG (o7 A.out) (by omega)) (by omega)) (by omega)⟩
    ·have HK:Hid (mZ p s a=true):=by unfold Hid;simp [mZ,hrd,HT.out]
     have ah:Hid (jS p s a=false):=by
      unfold Hid;cases hd:jS p s a with
      | false=>rfl
      | true=>simp [jF,hd]at hrd
     clear hrd;have aX:a<4:=by omega
     have aV:=F.out.next aX;have ht0:(0:Int)<=(a:Int):=by omega
     have ht1:(a:Int)<4:=by omega
     have aZ:k+1<=maxLen:=by unfold maxLen;omega
     have aN:(k+1)*16<=140737488355328:=by omega
     go_wp2_with (at_builtin;refine wpList_append_lies _ rfl _ _ _ rfl (w.heap.size+1) 76 i0 _ 2 16 Tryz.underlying27 S ad ax am rfl (by omega) u8 k (iS f) rfl (iK G.out) ⟨h.heap.size,0,none⟩ 1 1 [.int .i64 a,.int .i64 (s.next a)] rfl rfl (World.news_of_block (cs:= #[.int .i64 a,.int .i64 (s.next a)]) (t:=76) (fr:=(0,0)) (heap_alloc_new h _)) (by simp [Value.oneCell']) (by omega) aZ aN (by simp;omega) (h.heap.size+1) (by simp) ?_;intro g2 Z L aw Y aU hlt2)
     have aa:=iB G.out;have ag:Hid ((w.alloc (.cells #[.int .i64 0,.int .i64 0,.int .i64 0] 26)).grownBy L (some b)):=jH (ir A.out) Y (fun k e=>by have:=aa k e;simp;omega);have ak:Hid (StAt L b s):=StAt.rowGrown (F.out.grown (ir (iu _ _))) Y (fun k e=>by have:=aa k e;omega);have az:Hid (MachAt B L m p):=(HM.out.grown' (by omega) (ir (iu w none))).grown N (by simp;omega) ag.out;have aD:Hid (L.ownsRow (w.heap.size+1) 76 2 (.slice (some ⟨g2,0,none⟩) (k+1) Z) (k+1) (iS (f++[((a:Int),s.next a)]))):=by
      unfold Hid;rw [nw];exact aw
     clear n q l D C E aa Y aU aw F aT G A aV;refine(FS P.out az.out N ak.out Q.out T ah.out).mono ?_;rintro e w3 ⟨r,rfl,hr,aj,W⟩;have ac:Hid ((w.alloc (.cells #[.int .i64 0,.int .i64 0,.int .i64 0] 26)).grownBy w3 (some b)):=ip ag.out W;have ap:Hid (w3.ownsRow (w.heap.size+1) 76 2 (.slice (some ⟨g2,0,none⟩) (k+1) Z) (k+1) (iS (f++[((a:Int),s.next a)]))):=iE aD.out W (fun k e=>by cases e;omega);have aG:Hid (StAt w3 b (jQ p s a).2):=aj;have aL:Hid (Inv p (jQ p s a).2):=Inv.step P.out Q.out T ah.out;have HR:Hid (r=(jQ p s a).1):=hr;clear hr aj W aD az ak ag;have u:=pi ac.out M;obtain⟨n,q,l,d⟩:=l8 u;have D:=d 0;have C:=d 1;have E:=d 2;clear d u;cases r
     ·have y:Hid (je p c 0 j []=⟨f++[((a:Int),s.next a)],1,a,s.next a,(jQ p s a).2⟩):=by
       unfold Hid;rw [J.out,K.out,mT p a _ _ s f HK.out (by simpa using HR.out.symm)];rfl
      go_wp2
      rw [y.out];exact bodyPost_ret (v:= .tuple #[.slice (some ⟨g2,0,none⟩) (k+1) Z,.agg #[.int .i64 1,.int .i64 a,.int .i64 (s.next a)]]) (by simp [results,Tryz.results50,go_sem,n,q,l]) rfl
       ⟨_,rfl,by
        have e:(f++[((a:Int),s.next a)]).length=k+1:=by simp [I]
        simp only [e];exact iR (ownsRow_setCell_below (ownsRow_setCell_below (ownsRow_setCell_below ap.out (by simp) _) (by simp) _) (by simp) _) (by omega),((aG.out.setOther (by omega)).setOther (by omega)).setOther (by omega),iG (iG (iG (o7 ac.out) (by omega)) (by omega)) (by omega)⟩
     ·have y:Hid (je p c 0 j []=je p (c.drop (k+1)) ((k+1:Nat):Int) (jQ p s a).2 (f++[((a:Int),s.next a)])):=by
       unfold Hid;rw [J.out,K.out,nU p a _ _ s f HK.out (by simpa using HR.out.symm)];rfl
      clear n q l D C E;go_wp2
      go_roundw
      case rel=>exact⟨k+1,(jQ p s a).2,f++[((a:Int),s.next a)],by omega,by go_num,by simp [I],ap,aG,aL,ac,y⟩
      case measure=>simp [intOf];omega
  ·have y:Hid (je p c 0 j []=⟨f,jR p s,0,0,s⟩):=by
    unfold Hid;rw [J.out,List.drop_of_length_le (by omega)];rfl
   go_wp2_with fail
   refine(C5 P.out R.out N H.out Q.out).mono ?_;rintro e h ⟨rfl,x⟩;have A:Hid ((w.alloc (.cells #[.int .i64 0,.int .i64 0,.int .i64 0] 26)).grownBy h (some b)):=ip z.out (lU x);have G:Hid (h.ownsRow (w.heap.size+1) 76 2 u8 k (iS f)):=iE O.out x (fun _ e=>by cases e);have F:Hid (StAt h b s):=H.out.grown x;clear n q l D C E HV x;have u:=pi A.out M;obtain⟨n,q,l,d⟩:=l8 u;have D:=d 0;have C:=d 1;have E:=d 2;clear d u;go_wp2
   rw [y.out];exact bodyPost_ret (v:= .tuple #[u8,.agg #[.int .i64 (jR p s),.int .i64 0,.int .i64 0]]) (by simp [results,Tryz.results50,go_sem,n,q,l]) rfl
    ⟨u8,rfl,by rw [I];exact iR (ownsRow_setCell_below (ownsRow_setCell_below (ownsRow_setCell_below G.out (by simp) _) (by simp) _) (by simp) _) (by omega),((F.out.setOther (by omega)).setOther (by omega)).setOther (by omega),iG (iG (iG (o7 A.out) (by omega)) (by omega)) (by omega)⟩
end
section
open Go.RowKit
attribute [local go_sem] Go.World.cell?_alloc_some
theorem il{p:Prop}(h:p):Hid p:=h
theorem nk{p:Prop}(h:Hid p):p:=h
section
variable {P : Program}
theorem tN(w:World)(h s ty f:TypeId)(g d o:Nat)(a:Addr)(c n b:Nat)(cur:Array Value)(t:TypeId)(cs:List Value)
  (x:P.underlying h=some (.slice f)) (l:(P.info? f).map (·.size)=some b)
  (r:w.heap[g]?=some (.cells cur t (0,0))) (y:cs.length=Nat.min c d*b)
  (m:∀ j v,cs[j]?=some v->w.cell? (a.add j)=some v) (hfit:cs.length=cur.size) (p:∀ v∈cs,v.oneCell'=true):
  (Builtin.copy_ #[h,s] ty #[.slice (some ⟨g,0,none⟩) d o,.slice (some a) c n]).run P w=
   .ok (goInt (Nat.min c d)) (w.setRow g cs.toArray):=by
 have u:=run_loadCells_list (P:=P) w a cs m;have k:=run_storeCells_at P g 0 t cs 0 cur w r (by omega) p;have e:(cur.toList.take (0+0)++cs++cur.toList.drop (0+0+cs.length))=cs:=by
  have:cur.toList.drop (0+0+cs.length)=[]:=List.drop_of_length_le (by simp;omega);rw [this];simp
 rw [e]at k;cases hq:P.info? f with
 | none=>simp [hq]at l
 | some i=>
  have q:i.size=b:=by simpa [hq]using l
  simp [Builtin.copy_,run_underlying x,Builtin.lenOf,Builtin.firstCells,sizeOf,typeInfo,hq,q,<-y,u,k]
end
def jq(n:Nat)(s:St):List Value:=(List.range n).flatMap fun t=>[.int .i64 (s.regs t 0),.int .i64 (s.regs t 1),.int .i64 (s.regs t 2),.int .i64 (s.regs t 3)]
theorem kk(n:Nat)(s:St):(jq n s).length=n*4:=by
 induction n with
 | zero=>rfl
 | succ n ih=>unfold jq at*;rw [List.range_succ,List.flatMap_append,List.length_append,ih];simp;omega
theorem vY{w:World}{b:Nat}{s:St}(i:StAt w b s){n:Nat}(hn:n<=4):∀ j v,(jq n s)[j]?=some v->w.cell? ((⟨b,10,none⟩:Addr).add j)=some v:=by
 intro j v a;have d:(⟨b,10,none⟩:Addr).add j=⟨b,10+j,none⟩:=by unfold Addr.add;split<;>simp_all
 have k:j<n*4:=by
  have:=(List.getElem?_eq_some_iff.1 a).1;rw [kk]at this;exact this
 rw [d,i.cell];have hc:n=0\/n=1\/n=2\/n=3\/n=4:=by omega
 have e:(jq 4 s)[j]?=some v:=by
  have h:∃ l,jq 4 s=jq n s++l:=by
   rcases hc with rfl | rfl | rfl | rfl | rfl
   ·exact⟨_,rfl⟩
   ·exact⟨_,rfl⟩
   ·exact⟨_,rfl⟩
   ·exact⟨_,rfl⟩
   ·exact⟨[],by simp⟩
  obtain⟨l,e⟩:=h;rw [e,List.getElem?_append_left (by rw [kk];exact k)];exact a
 have h16:j<16:=by omega
 have f:s.cells[10+j]?=(jq 4 s)[j]?:=by
  have:s.cells.toList.drop 10=jq 4 s++[.int .i64 (s.next 0),.int .i64 (s.next 1),.int .i64 (s.next 2),.int .i64 (s.next 3)]:=rfl;have c:(s.cells.toList.drop 10)[j]?=(jq 4 s)[j]?:=by
   rw [this,List.getElem?_append_left (by rw [kk];omega)]
  rw [<-c,List.getElem?_drop];simp
 rw [f];exact e
theorem Ac(n:Nat)(s:St):∀ v∈jq n s,v.oneCell'=true:=by
 intro v a;unfold jq at a;simp only [List.mem_flatMap,List.mem_cons,List.not_mem_nil,or_false]at a;obtain⟨t,_,h⟩:=a;rcases h with rfl | rfl | rfl | rfl<;>rfl
theorem sj{w:World}{base:Nat}{e:TypeId}{a:Nat}{g n b:Nat}{xs:List Value}(h:w.ownsRow base e a (.slice (some ⟨g,0,none⟩) n b) n xs):
  ∃ cur,w.heap[g]?=some (.cells cur e (0,0))/\cur.size=b*a:=by
 rcases h.2 with ⟨e1,_⟩ | ⟨g',cap',cur,hv,hb,hh,_,_,hs,_⟩
 ·cases e1
 ·simp at hv;obtain⟨rfl,rfl⟩:=hv;exact⟨cur,hh,hs⟩
theorem kw{w:World}{g:Nat}{x0 x1 x2 x3 c e b a d:Value}{t:TypeId}(h:w.heap[g]?=some (.cells #[x0,x1,x2,x3,c,e,b,a,d] t (0,0))):
  w.cell? ⟨g,0,none⟩=some x0/\w.cell? ⟨g,1,none⟩=some x1/\w.cell? ⟨g,2,none⟩=some x2/\w.cell? ⟨g,3,none⟩=some x3/\w.cell? ⟨g,4,none⟩=some c/\w.cell? ⟨g,5,none⟩=some e/\w.cell? ⟨g,6,none⟩=some b/\w.cell? ⟨g,7,none⟩=some a/\w.cell? ⟨g,8,none⟩=some d/\(∀ o,w.frozen? ⟨g,o,none⟩=false):=by
 simp [World.cell?,World.frozen?,h]
theorem pW(w:World)(g k:Nat)(cs:Array Value)(h:k≠g):(w.setRow g cs).heap[k]?=w.heap[k]?:=by
 simp only [World.setRow,Array.getElem?_modify];rw [if_neg (by omega)]
theorem iy{w:World}{base:Nat}{e:TypeId}{a:Nat}{v:Value}{n:Nat}{xs:List Value}(h:w.ownsRow base e a v n xs):∃ ao n c,v= .slice ao n c:=by
 rcases h.2 with ⟨e1,_⟩ | ⟨g',cap',cur,hv,_⟩
 ·exact⟨_,_,_,e1⟩
 ·exact⟨_,_,_,hv⟩
def Cz(base:Nat)(w:World)(o:Out)(n:Nat)(rv:Value):Prop:=
 ∃ sv gv,rv= .agg #[.int .i64 o.kind,.int .i64 o.thread,.int .i64 o.at_,sv,.int .i64 (o.st.vars 0),.int .i64 (o.st.vars 1),.int .i64 (o.st.vars 2),.int .i64 (o.st.vars 3),gv]/\
  w.ownsRow base 76 2 sv o.steps.length (iS o.steps)/\w.ownsRow base 28 4 gv n (jq n o.st)
theorem xd:((Tryz.prog.info? 28).map fun i=>(i.zero,i.size,i.bytes))=some (some (.agg #[.int .i64 0,.int .i64 0,.int .i64 0,.int .i64 0]),4,32):=by kernel_rfl
theorem ur{B m:Nat}{w:World}{p:List (List Ins)}{v:Value}{b:List Int}(x:iV p=true)(A:MachAt B w m p)(C:B<=w.heap.size)
  (D:IntsAt B w v b) (O:b.length<=500):
  Calls Tryz.prog 17 #[.pointer (some ⟨m,0,none⟩),v] w fun e w'=>∃ rv,e= .returned rv/\Cz w.heap.size w' (iJ p b) p.length rv/\w.grownBy w' none:=by
 obtain⟨i0,y,ax,F,Y⟩:=info_parts xd;have hlen:=jA x;have E:Hid (MachAt B w m p):=A;have HV:Hid (IntsAt B w v b):=D;have HP:Hid (iV p=true):=x;clear A D x;go_enter Tryz.func17,Tryz.ntmps17
 go_wp2_with fail
 generalize K:Obj.cells #[Value.int IntKind.i64 0,Value.int IntKind.i64 0,Value.int IntKind.i64 0,Value.slice none 0 0,Value.int IntKind.i64 0,Value.int IntKind.i64 0,Value.int IntKind.i64 0,Value.int IntKind.i64 0,Value.slice none 0 0] 31=R9;have aj:=il K;clear K;have HZ:Hid (StAt ((w.alloc R9).alloc (.cells St.zero.cells 122)) (w.heap.size+1) St.zero):=by
  unfold Hid StAt;have:=heap_alloc_new (w.alloc R9) (.cells St.zero.cells 122);simpa using this
 have HB:Hid (w.grownBy ((w.alloc R9).alloc (.cells St.zero.cells 122)) none):=ir (ir (iu _ _));have au:Hid (IntsAt B ((w.alloc R9).alloc (.cells St.zero.cells 122)) v b):=by
  obtain⟨ao,T,e,h1,Q⟩:=HV.out;refine⟨ao,T,e,h1,fun k hk=>?_⟩;obtain⟨g,o,V,e2,e3⟩:=Q k hk;exact⟨g,o,V,e2,by rw [HB.out.cell_far _ (by simp;omega) (by simp)];exact e3⟩
 have N:=il (Di HP.out (E.out.grown' C HB.out) (by omega:B<=w.heap.size+1) HZ.out (Inv.zero p) au.out O);refine(nk N).mono ?_;rintro e a ⟨sv,rfl,n,H,d⟩;have HO:Hid (a.ownsRow (w.heap.size+2) 76 2 sv (iJ p b).steps.length (iS (iJ p b).steps)):=by
  have e:((w.alloc R9).alloc (.cells St.zero.cells 122)).heap.size=w.heap.size+2:=by simp
  rw [e]at n;exact n
 have S:Hid (StAt a (w.heap.size+1) (iJ p b).st):=H;have HG:Hid (((w.alloc R9).alloc (.cells St.zero.cells 122)).grownBy a (some (w.heap.size+1))):=d;have hsz:w.heap.size+2<=a.heap.size:=by have:=d.size;simpa using this
 have I:Hid (w.grownBy a none):=by
  refine⟨d.os,d.tape,d.output,by omega,fun k hk _=>?_⟩;rw [d.block k (by simp;omega) (by simp;omega)];exact HB.out.block k hk (by simp)
 obtain⟨ay,al,an,rfl⟩:=iy n;have W:Hid (MachAt B a m p):=E.out.grown' C I.out;clear n H d N;generalize u:iJ p b=o at*;have M:je p b 0 St.zero []=o:=u;rw [M];clear M;have ah:=il u;clear u;obtain⟨mg,mcap,hm1,hm2,aC,X⟩:=W.out;clear X;have hn4:(p.length:Int)<=4:=by omega
 have G:Hid (StAt (a.alloc (.cells #[.int .i64 o.kind,.int .i64 o.thread,.int .i64 o.at_] 26)) (w.heap.size+1) o.st):=S.out.grown (ir (iu _ _));go_wp2_with (at_make;refine wpList_make_full _ rfl _ _ _ rfl (w.heap.size+2) 28 i0 _ 4 Tryz.underlying29 y ax F .i64 .i64 _ _ p.length rfl rfl rfl rfl (by rw [Y];omega) (by unfold maxLen;omega) (by simp;omega) ?_;intro l s q;simp only [World.size_alloc]at s;obtain⟨cur,t,Z⟩:=sj s)
 rw [tN l 29 29 3 28 (a.heap.size+1) p.length p.length ⟨w.heap.size+1,10,none⟩ 4 4 4 cur 28 (jq p.length o.st) Tryz.underlying29 (by rw [y];simp [F]) t (by rw [kk];show p.length*4=min 4 p.length*4;omega) (vY (G.out.grown q) (by omega)) (by rw [kk,Z]) (Ac _ _)];have j:Hid ((a.alloc (.cells #[.int .i64 o.kind,.int .i64 o.thread,.int .i64 o.at_] 26)).grownBy l none):=q;have am:Hid (l.heap[a.heap.size+1]?=some (.cells cur 28 (0,0))):=t;clear q s t;generalize z:l.setRow (a.heap.size+1) (jq p.length o.st).toArray=w3;have f:=il z;clear z;have i:∀ k,k<a.heap.size+1->w3.heap[k]?=(a.alloc (.cells #[.int .i64 o.kind,.int .i64 o.thread,.int .i64 o.at_] 26)).heap[k]?:=fun k hk=>by
  rw [<-f.out,pW _ _ _ _ (by omega),j.out.block k (by simp;omega) (by simp)]
 have HB3:=il i;have L:w3.heap[a.heap.size]?=some (.cells #[.int .i64 o.kind,.int .i64 o.thread,.int .i64 o.at_] 26 (0,0)):=by rw [i _ (by omega)];exact heap_alloc_new a _
 have h:StAt w3 (w.heap.size+1) o.st:=by
  unfold StAt;rw [i _ (by omega)];exact G.out
 have r:w3.heap[w.heap.size]?=some R9:=by
  rw [i _ (by omega),Below.heap_alloc _ _ _ (by omega),HG.out.block _ (by simp;omega) (by simp)];rw [Below.heap_alloc _ _ _ (by simp)];exact heap_alloc_new w R9
 obtain⟨q0,q1,q2,_⟩:=l8 L;have s0:=h.var (v:=0) (by omega);have s1:=h.var (v:=1) (by omega);have s2:=h.var (v:=2) (by omega);have s3:=h.var (v:=3) (by omega);have HST:=il h;rw [<-aj.out]at r;obtain⟨r0,r1,r2,r3,R,r5,P,U,r8,c⟩:=kw r;have f0:=c 0;have f1:=c 1;have f2:=c 2;have f3:=c 3;have f4:=c 4;have f5:=c 5;have f6:=c 6;have f7:=c 7;have f8:=c 8;have J:Hid (a.grownBy w3 none):=by
  refine⟨?_,?_,?_,?_,fun k hk _=>by rw [i k (by omega),Below.heap_alloc _ _ _ hk]⟩
  ·rw [<-f.out];exact j.out.os
  ·rw [<-f.out];exact j.out.tape
  ·rw [<-f.out];exact j.out.output
  ·rw [<-f.out];have:=j.out.size;simp at this ⊢;omega
 have ab:Hid (w3.ownsRow (w.heap.size+2) 28 4 (.slice (some ⟨a.heap.size+1,0,none⟩) p.length p.length) p.length (jq p.length o.st)):=by
  refine⟨kk _ _,Or.inr ⟨a.heap.size+1,p.length,(jq p.length o.st).toArray,rfl,by omega,?_,Nat.le_refl _,by unfold maxLen;omega,by simp [kk],?_⟩⟩
  ·rw [<-f.out];exact setRow_heap _ _ _ _ _ _ am.out
  ·rw [List.take_of_length_le (by simp [kk])]
 clear c r L h i aC;go_wp2
 rw [ah.out];refine bodyPost_ret (v:= .agg #[.int .i64 o.kind,.int .i64 o.thread,.int .i64 o.at_,.slice ay al an,.int .i64 (o.st.vars 0),.int .i64 (o.st.vars 1),.int .i64 (o.st.vars 2),.int .i64 (o.st.vars 3),.slice (some ⟨a.heap.size+1,0,none⟩) p.length p.length]) ?_ rfl ⟨_,rfl,⟨_,_,rfl,?_,?_⟩,?_⟩
 ·simp [results,Tryz.results17,go_sem,r0,r1,r2,r3,R,r5,P,U,r8]
 ·refine iR (base:=w.heap.size+2) ?_ (by omega);iterate 9 refine ownsRow_setCell_below ?_ (by simp) _
  exact iE HO.out J.out (fun _ e=>by cases e)
 ·refine iR (base:=w.heap.size+2) ?_ (by omega);iterate 9 refine ownsRow_setCell_below ?_ (by simp) _
  exact ab.out
 ·iterate 9 refine iG ?_ (by omega)
  exact ip I.out J.out
theorem ym(k x len:Int)(h0:0<=len)(h16:len<=16)(w:World):Calls Tryz.prog 157 #[.int .i64 k,.int .i64 x,.int .i64 len] w fun e w'=>e= .returned (.bool (mn k x len))/\w'=w:=by
 by_cases d:k=1
 ·subst d;go_enter Tryz.func157,Tryz.ntmps157
  go_wp2_with (go_at_call 80;refine(pX _ _ _).mono ?_;rintro e w' ⟨rfl,rfl⟩)
  go_ret;exact⟨rfl,rfl⟩
 by_cases c:k=2
 ·subst c;go_enter Tryz.func157,Tryz.ntmps157
  go_wp2_with (go_at_call 80;refine(pX _ _ _).mono ?_;rintro e w' ⟨rfl,rfl⟩)
  go_ret;exact⟨rfl,rfl⟩
 by_cases a:k=3
 ·subst a;go_enter Tryz.func157,Tryz.ntmps157
  go_wp2_with (go_at_call 80;refine(pX _ _ _).mono ?_;rintro e w' ⟨rfl,rfl⟩)
  go_ret;exact⟨rfl,rfl⟩
 by_cases f:k=4
 ·subst f;go_enter Tryz.func157,Tryz.ntmps157
  go_wp2_with (go_at_call 80;refine(pX _ _ _).mono ?_;rintro e w' ⟨rfl,rfl⟩)
  go_ret;exact⟨rfl,rfl⟩
 by_cases b:k=5
 ·subst b;go_enter Tryz.func157,Tryz.ntmps157
  go_wp2_with fail
  go_ret;exact⟨rfl,rfl⟩
 have HB:Hid (mn k x len=(x==0)):=by unfold Hid;simp [mn,d,c,a,f,b]
 have f1:(k==1)=false:=by simpa using d
 have f2:(k==2)=false:=by simpa using c
 have f3:(k==3)=false:=by simpa using a
 have f4:(k==4)=false:=by simpa using f
 have f5:(k==5)=false:=by simpa using b
 go_enter Tryz.func157,Tryz.ntmps157
 go_wp2_with fail
 go_ret;exact⟨by rw [HB.out];rfl,rfl⟩
def ShpAt(w:World):Prop:=∀ o j,o<12->j<3->w.cell? ⟨0,o*3+j,none⟩=some (.int .i64 (shp o j))
theorem xS(i:Ins)(len:Int)(f:0<=len)(d:len<=16)(w:World)(l:ShpAt w):
  Calls Tryz.prog 123 #[.agg #[.int .i64 i.op,.int .i64 i.a,.int .i64 i.b,.int .i64 i.n],.int .i64 len] w fun e w'=>e= .returned (.bool (lH i len))/\w.grownBy w' none:=by
 have h:Hid (ShpAt w):=l;clear l;by_cases k:1<=i.op
 ·by_cases j:i.op<=11
  ·have eo:((i.op.toNat:Nat):Int)=i.op:=by omega
   have c0:=h.out i.op.toNat 0 (by omega) (by omega);have c1:=h.out i.op.toNat 1 (by omega) (by omega);have c2:=h.out i.op.toNat 2 (by omega) (by omega);simp only [Nat.add_zero]at c0;have c:Hid (lH i len=(mn (shp i.op.toNat 0) i.a len && (mn (shp i.op.toNat 1) i.b len && mn (shp i.op.toNat 2) i.n len))):=by unfold Hid;simp [lH,k,j]
   generalize shp i.op.toNat 0=k0 at*;generalize shp i.op.toNat 1=k1 at*;generalize shp i.op.toNat 2=k2 at*;go_enter Tryz.func123,Tryz.ntmps123
   go_wp2_with fail
   refine(ym _ _ _ f d _).mono ?_;rintro e w' ⟨rfl,rfl⟩;cases hf0:mn k0 i.a len
   ·go_wp2_with fail
    go_ret;exact⟨by rw [c.out,hf0];rfl,ir (ir (iu _ _))⟩
   ·go_wp2_with fail
    refine(ym _ _ _ f d _).mono ?_;rintro e w' ⟨rfl,rfl⟩;cases hf1:mn k1 i.b len
    ·go_wp2_with fail
     go_ret;exact⟨by rw [c.out,hf0,hf1];rfl,ir (ir (iu _ _))⟩
    ·go_wp2_with fail
     refine(ym _ _ _ f d _).mono ?_;rintro e w' ⟨rfl,rfl⟩;go_wp2_with fail
     go_ret;exact⟨by rw [c.out,hf0,hf1];simp,ir (ir (iu _ _))⟩
  ·have c:Hid (lH i len=false):=by unfold Hid;simp [lH,j]
   have m:11<i.op:=by omega
   go_enter Tryz.func123,Tryz.ntmps123
   go_wp2_with fail
   go_ret;exact⟨by rw [c.out];rfl,ir (iu _ _)⟩
 ·have c:Hid (lH i len=false):=by unfold Hid;simp [lH,k]
  have m:i.op<1:=by omega
  go_enter Tryz.func123,Tryz.ntmps123
  go_wp2_with fail
  go_ret;exact⟨by rw [c.out];rfl,ir (iu _ _)⟩
def CodeAt(w:World)(v:Value)(c:List Ins):Prop:=
 ∃ ao cap,v= .slice ao c.length cap/\∀ k (hk:k<c.length),∃ g o,ao=some ⟨g,o,none⟩/\w.cell? ⟨g,o+k*4,none⟩=some (.int .i64 c[k].op)/\
  w.cell? ⟨g,o+k*4+1,none⟩=some (.int .i64 c[k].a)/\w.cell? ⟨g,o+k*4+2,none⟩=some (.int .i64 c[k].b)/\w.cell? ⟨g,o+k*4+3,none⟩=some (.int .i64 c[k].n)
def ProgAt(w:World)(v:Value)(p:List (List Ins)):Prop:=
 ∃ ao cap,v= .agg #[.slice ao p.length cap]/\∀ t (ht:t<p.length),∃ g o,ao=some ⟨g,o,none⟩/\∃ rv,w.cell? ⟨g,o+t,none⟩=some rv/\CodeAt w rv p[t]
def Pres(w w':World):Prop:=∀ a v,w.cell? a=some v->w'.cell? a=some v
theorem Pres.refl(w:World):Pres w w:=fun _ _ h=>h
theorem Pres.trans{a b c:World}(h:Pres a b)(h':Pres b c):Pres a c:=fun x v hx=>h' x v (h x v hx)
theorem iq{w w':World}(h:w.grownBy w' none):Pres w w':=fun a v ha=>by
 rw [h.cell_far a (World.block_lt_of_cell? w a ha) (by simp)];exact ha
theorem CodeAt.pres{w w':World}{v:Value}{c:List Ins}(h:CodeAt w v c)(a:Pres w w'):CodeAt w' v c:=by
 obtain⟨b,j,e,h⟩:=h;refine⟨b,j,e,fun k hk=>?_⟩;obtain⟨g,o,l,f,d,m,i⟩:=h k hk;exact⟨g,o,l,a _ _ f,a _ _ d,a _ _ m,a _ _ i⟩
theorem ProgAt.pres{w w':World}{v:Value}{p:List (List Ins)}(h:ProgAt w v p)(a:Pres w w'):ProgAt w' v p:=by
 obtain⟨b,f,e,h⟩:=h;refine⟨b,f,e,fun k hk=>?_⟩;obtain⟨g,o,i,rv,d,c⟩:=h k hk;exact⟨g,o,i,rv,a _ _ d,c.pres a⟩
theorem ShpAt.pres{w w':World}(h:ShpAt w)(hp:Pres w w'):ShpAt w':=fun o j h1 h2=>hp _ _ (h o j h1 h2)
theorem kY{α:Type}(l:List α)(f:α->Bool)(k:Nat)(h:k<l.length):(l.take (k+1)).all f=((l.take k).all f && f l[k]):=by
 rw [List.take_succ_eq_append_getElem h,List.all_append];simp
theorem tW(c:List Ins)(v:Value)(w:World)(m:ShpAt w)(hc:CodeAt w v c):
  Calls Tryz.prog 84 #[v] w fun e w'=>e= .returned (.bool (kU c))/\w.grownBy w' none:=by
 obtain⟨ao,cap,rfl,hc⟩:=hc;have u:Hid (ShpAt w):=m;have A:=il hc;clear m hc;by_cases q:c.length<=16
 ·have t:(c.length:Int)<=16:=by omega
  have b:Hid (kU c=c.all fun i=>lH i c.length):=by unfold Hid;simp [kU,q]
  go_enter Tryz.func84,Tryz.ntmps84
  go_wp2
  go_loopw [10] (fun i w'=>∃ k:Nat,k<=c.length/\i= .int .i64 k/\Hid (w.grownBy w' none)/\Hid ((c.take k).all (fun i=>lH i c.length)=true)) (fun i _=>c.length - (intOf i).toNat)
  case atStart=>exact⟨0,Nat.zero_le _,rfl,iu _ _,rfl⟩
  case round=>
   obtain⟨k,hk,rfl,d,p⟩:=hrel;by_cases n:k<c.length
   ·obtain⟨g,o,rfl,c0,c1,s,l⟩:=A.out k n;have a:=iq d.out;have d0:=a _ _ c0;have d1:=a _ _ c1;have d2:=a _ _ s;have d3:=a _ _ l;have f:=il (kY c (fun i=>lH i c.length) k n);clear c0 c1 s l a;have hk0:(0:Int)<=(k:Int):=by omega
    have hk1:(k:Int)<c.length:=by omega
    have y:Hid (ShpAt wr):=u.out.pres (iq d.out);generalize c[k]=i at*;go_wp2_with fail
    refine(xS i c.length (by omega) (by omega) _ (y.out.pres (iq (ir (iu _ _))))).mono ?_;rintro e x ⟨rfl,j⟩;have r:Hid (w.grownBy x none):=ip (ir d.out) j;clear j;cases hv:lH i c.length
    ·have h:Hid (kU c=false):=by
      unfold Hid;rw [b.out];have:(c.take (k+1)).all (fun i=>lH i c.length)=false:=by rw [f.out,hv];simp
      rw [<-List.take_append_drop (k+1) c,List.all_append,List.take_append_drop,this];rfl
     go_wp2_with fail
     go_ret;exact⟨by rw [h.out];rfl,r⟩
    ·have z:Hid ((c.take (k+1)).all (fun i=>lH i c.length)=true):=by unfold Hid;rw [f.out,hv,p.out];rfl
     clear f hv;go_wp2
     go_roundw
     case rel=>exact⟨k+1,by omega,by go_num,r,z⟩
     case measure=>simp [intOf];omega
   ·have h:Hid (kU c=true):=by
     unfold Hid;rw [b.out];have:=p.out;rw [List.take_of_length_le (by omega)]at this;exact this
    go_wp2
    go_ret;exact⟨by rw [h.out];rfl,d⟩
 ·have b:Hid (kU c=false):=by unfold Hid;simp [kU,q]
  have t:(16:Int)<c.length:=by omega
  go_enter Tryz.func84,Tryz.ntmps84
  go_wp2
  go_ret;exact⟨by rw [b.out];rfl,iu _ _⟩
def Made(w:World)(t:Nat)(i:Ins)(e:Ending)(w':World):Prop:=∃ v,e= .returned v/\(∀ w'':World,(∀ k,w.heap.size<=k->k<w'.heap.size->w''.heap[k]?=w'.heap[k]?)->ActIs w'.heap.size w'' v t i)/\w.grownBy w' none
theorem FJ(t:Nat)(i:Ins)(h:i.op=1)(w:World):Calls Tryz.prog 110 #[.int .i64 t,.int .i64 i.a,.int .i64 i.n] w (Made w t i):=by
 have hmf:∀ (fn:Fn) (first cap:Array Value) (w:World),(Instr.makeFunc fn first cap).run Tryz.prog w= .ok (.func fn first cap) w:=fun _ _ _ _=>rfl
 have H:Hid (i.op=1):=h;clear h;go_enter Tryz.func110,Tryz.ntmps110
 go_wp2
 go_ret;have h:=H.out;refine⟨_,rfl,fun w2 hw2=>⟨w.heap.size+2,w.heap.size,w.heap.size+1,0,by(simp<;>omega),by(simp<;>omega),by(simp<;>omega),by simp,Or.inl ⟨h,rfl,?_,?_,?_⟩⟩,ir (ir (ir (iu _ _)))⟩
 all_goals (rw [World.cell?_of_block (hw2 _ (by(simp<;>omega)) (by(simp<;>omega)))];simp [go_sem])
theorem Ek(t:Nat)(i:Ins)(h:i.op=2)(w:World):Calls Tryz.prog 111 #[.int .i64 t,.int .i64 i.a,.int .i64 i.b] w (Made w t i):=by
 have hmf:∀ (fn:Fn) (first cap:Array Value) (w:World),(Instr.makeFunc fn first cap).run Tryz.prog w= .ok (.func fn first cap) w:=fun _ _ _ _=>rfl
 have H:Hid (i.op=2):=h;clear h;go_enter Tryz.func111,Tryz.ntmps111
 go_wp2
 go_ret;have h:=H.out;refine⟨_,rfl,fun w2 hw2=>⟨w.heap.size+2,w.heap.size,w.heap.size+1,0,by(simp<;>omega),by(simp<;>omega),by(simp<;>omega),by simp,Or.inr (Or.inl ⟨h,rfl,?_,?_,?_⟩)⟩,ir (ir (ir (iu _ _)))⟩
 all_goals (rw [World.cell?_of_block (hw2 _ (by(simp<;>omega)) (by(simp<;>omega)))];simp [go_sem])
theorem CH(t:Nat)(i:Ins)(h:i.op=3)(w:World):Calls Tryz.prog 112 #[.int .i64 t,.int .i64 i.a,.int .i64 i.b] w (Made w t i):=by
 have hmf:∀ (fn:Fn) (first cap:Array Value) (w:World),(Instr.makeFunc fn first cap).run Tryz.prog w= .ok (.func fn first cap) w:=fun _ _ _ _=>rfl
 have H:Hid (i.op=3):=h;clear h;go_enter Tryz.func112,Tryz.ntmps112
 go_wp2
 go_ret;have h:=H.out;refine⟨_,rfl,fun w2 hw2=>⟨w.heap.size,w.heap.size+2,w.heap.size+1,0,by(simp<;>omega),by(simp<;>omega),by(simp<;>omega),by simp,Or.inr (Or.inr (Or.inl ⟨h,rfl,?_,?_,?_⟩))⟩,ir (ir (ir (iu _ _)))⟩
 all_goals (rw [World.cell?_of_block (hw2 _ (by(simp<;>omega)) (by(simp<;>omega)))];simp [go_sem])
theorem Ae(t:Nat)(i:Ins)(h:i.op=7)(w:World):Calls Tryz.prog 117 #[.int .i64 t,.int .i64 i.a,.int .i64 i.b] w (Made w t i):=by
 have hmf:∀ (fn:Fn) (first cap:Array Value) (w:World),(Instr.makeFunc fn first cap).run Tryz.prog w= .ok (.func fn first cap) w:=fun _ _ _ _=>rfl
 have H:Hid (i.op=7):=h;clear h;go_enter Tryz.func117,Tryz.ntmps117
 go_wp2
 go_ret;have h:=H.out;refine⟨_,rfl,fun w2 hw2=>⟨w.heap.size,w.heap.size+2,w.heap.size+1,0,by(simp<;>omega),by(simp<;>omega),by(simp<;>omega),by simp,Or.inr (Or.inr (Or.inr (Or.inr (Or.inl ⟨h,rfl,?_,?_,?_⟩))))⟩,ir (ir (ir (iu _ _)))⟩
 all_goals (rw [World.cell?_of_block (hw2 _ (by(simp<;>omega)) (by(simp<;>omega)))];simp [go_sem])
theorem EP(t:Nat)(i:Ins)(h:i.op=8)(w:World):Calls Tryz.prog 118 #[.int .i64 t,.int .i64 i.a,.int .i64 i.n] w (Made w t i):=by
 have hmf:∀ (fn:Fn) (first cap:Array Value) (w:World),(Instr.makeFunc fn first cap).run Tryz.prog w= .ok (.func fn first cap) w:=fun _ _ _ _=>rfl
 have H:Hid (i.op=8):=h;clear h;go_enter Tryz.func118,Tryz.ntmps118
 go_wp2
 go_ret;have h:=H.out;refine⟨_,rfl,fun w2 hw2=>⟨w.heap.size,w.heap.size+1,w.heap.size+2,0,by(simp<;>omega),by(simp<;>omega),by(simp<;>omega),by simp,Or.inr (Or.inr (Or.inr (Or.inr (Or.inr (Or.inl ⟨h,rfl,?_,?_,?_⟩)))))⟩,ir (ir (ir (iu _ _)))⟩
 all_goals (rw [World.cell?_of_block (hw2 _ (by(simp<;>omega)) (by(simp<;>omega)))];simp [go_sem])
theorem E4(t:Nat)(i:Ins)(h:i.op=9)(w:World):Calls Tryz.prog 119 #[.int .i64 t,.int .i64 i.a] w (Made w t i):=by
 have hmf:∀ (fn:Fn) (first cap:Array Value) (w:World),(Instr.makeFunc fn first cap).run Tryz.prog w= .ok (.func fn first cap) w:=fun _ _ _ _=>rfl
 have H:Hid (i.op=9):=h;clear h;go_enter Tryz.func119,Tryz.ntmps119
 go_wp2
 go_ret;have h:=H.out;refine⟨_,rfl,fun w2 hw2=>⟨w.heap.size,w.heap.size+1,0,0,by(simp<;>omega),by simp,by simp,by simp,Or.inr (Or.inr (Or.inr (Or.inr (Or.inr (Or.inr (Or.inl ⟨h,rfl,?_,?_⟩))))))⟩,ir (ir (iu _ _))⟩
 all_goals (rw [World.cell?_of_block (hw2 _ (by(simp<;>omega)) (by(simp<;>omega)))];simp [go_sem])
theorem AJ(t:Nat)(i:Ins)(h:i.op=11)(w:World):Calls Tryz.prog 121 #[.int .i64 t,.int .i64 i.a] w (Made w t i):=by
 have hmf:∀ (fn:Fn) (first cap:Array Value) (w:World),(Instr.makeFunc fn first cap).run Tryz.prog w= .ok (.func fn first cap) w:=fun _ _ _ _=>rfl
 have H:Hid (i.op=11):=h;clear h;go_enter Tryz.func121,Tryz.ntmps121
 go_wp2
 go_ret;have h:=H.out;refine⟨_,rfl,fun w2 hw2=>⟨w.heap.size,w.heap.size+1,0,0,by(simp<;>omega),by simp,by simp,by simp,Or.inr (Or.inr (Or.inr (Or.inr (Or.inr (Or.inr (Or.inr (Or.inr (⟨h,rfl,?_,?_⟩))))))))⟩,ir (ir (iu _ _))⟩
 all_goals (rw [World.cell?_of_block (hw2 _ (by(simp<;>omega)) (by(simp<;>omega)))];simp [go_sem])
theorem yE(t:Nat)(i:Ins)(h:i.op=10)(w:World):Calls Tryz.prog 120 #[.int .i64 t,.int .i64 i.a] w (Made w t i):=by
 have hmf:∀ (fn:Fn) (first cap:Array Value) (w:World),(Instr.makeFunc fn first cap).run Tryz.prog w= .ok (.func fn first cap) w:=fun _ _ _ _=>rfl
 have H:Hid (i.op=10):=h;clear h;go_enter Tryz.func120,Tryz.ntmps120
 go_wp2
 go_ret;have h:=H.out;refine⟨_,rfl,fun w2 hw2=>⟨w.heap.size,w.heap.size+1,0,0,by(simp<;>omega),by simp,by simp,by simp,Or.inr (Or.inr (Or.inr (Or.inr (Or.inr (Or.inr (Or.inr (Or.inl ⟨h,rfl,?_,?_,?_⟩)))))))⟩,ir (ir (iu _ _))⟩
 all_goals (rw [World.cell?_of_block (hw2 _ (by(simp<;>omega)) (by(simp<;>omega)))];simp [go_sem])
theorem FP(t:Nat)(i:Ins)(h:i.op=4)(w:World):Calls Tryz.prog 113 #[.int .i64 t,.int .i64 i.a,.int .i64 i.b,.func (.func 114) #[] #[]] w (Made w t i):=by
 have hmf:∀ (fn:Fn) (first cap:Array Value) (w:World),(Instr.makeFunc fn first cap).run Tryz.prog w= .ok (.func fn first cap) w:=fun _ _ _ _=>rfl
 have H:Hid (i.op=4):=h;clear h;go_enter Tryz.func113,Tryz.ntmps113
 go_wp2
 go_ret;have h:=H.out;refine⟨_,rfl,fun w2 hw2=>⟨w.heap.size+3,w.heap.size,w.heap.size+1,w.heap.size+2,by(simp<;>omega),by(simp<;>omega),by(simp<;>omega),by(simp<;>omega),Or.inr (Or.inr (Or.inr (Or.inl ⟨_,Or.inl ⟨h,rfl⟩,rfl,?_,?_,?_,?_⟩)))⟩,ir (ir (ir (ir (iu _ _))))⟩
 all_goals (rw [World.cell?_of_block (hw2 _ (by(simp<;>omega)) (by(simp<;>omega)))];simp [go_sem])
theorem Fm(t:Nat)(i:Ins)(h:i.op=5)(w:World):Calls Tryz.prog 113 #[.int .i64 t,.int .i64 i.a,.int .i64 i.b,.func (.func 115) #[] #[]] w (Made w t i):=by
 have hmf:∀ (fn:Fn) (first cap:Array Value) (w:World),(Instr.makeFunc fn first cap).run Tryz.prog w= .ok (.func fn first cap) w:=fun _ _ _ _=>rfl
 have H:Hid (i.op=5):=h;clear h;go_enter Tryz.func113,Tryz.ntmps113
 go_wp2
 go_ret;have h:=H.out;refine⟨_,rfl,fun w2 hw2=>⟨w.heap.size+3,w.heap.size,w.heap.size+1,w.heap.size+2,by(simp<;>omega),by(simp<;>omega),by(simp<;>omega),by(simp<;>omega),Or.inr (Or.inr (Or.inr (Or.inl ⟨_,Or.inr (Or.inl ⟨h,rfl⟩),rfl,?_,?_,?_,?_⟩)))⟩,ir (ir (ir (ir (iu _ _))))⟩
 all_goals (rw [World.cell?_of_block (hw2 _ (by(simp<;>omega)) (by(simp<;>omega)))];simp [go_sem])
theorem Fe(t:Nat)(i:Ins)(h:i.op=6)(w:World):Calls Tryz.prog 113 #[.int .i64 t,.int .i64 i.a,.int .i64 i.b,.func (.func 116) #[] #[]] w (Made w t i):=by
 have hmf:∀ (fn:Fn) (first cap:Array Value) (w:World),(Instr.makeFunc fn first cap).run Tryz.prog w= .ok (.func fn first cap) w:=fun _ _ _ _=>rfl
 have H:Hid (i.op=6):=h;clear h;go_enter Tryz.func113,Tryz.ntmps113
 go_wp2
 go_ret;have h:=H.out;refine⟨_,rfl,fun w2 hw2=>⟨w.heap.size+3,w.heap.size,w.heap.size+1,w.heap.size+2,by(simp<;>omega),by(simp<;>omega),by(simp<;>omega),by(simp<;>omega),Or.inr (Or.inr (Or.inr (Or.inl ⟨_,Or.inr (Or.inr ⟨h,rfl⟩),rfl,?_,?_,?_,?_⟩)))⟩,ir (ir (ir (ir (iu _ _))))⟩
 all_goals (rw [World.cell?_of_block (hw2 _ (by(simp<;>omega)) (by(simp<;>omega)))];simp [go_sem])
theorem Made.grow{a w w':World}{t:Nat}{i:Ins}{e:Ending}(h:Made w t i e w')(b:a.grownBy w none):Made a t i e w':=by
 obtain⟨v,d,f,c⟩:=h;exact⟨v,d,fun w2 hw2=>f w2 fun k hk hk2=>hw2 k (Nat.le_trans b.size hk) hk2,ip b c⟩
theorem vI(t:Nat)(i:Ins)(h:i.op=1)(w:World):Calls Tryz.prog 79 #[.int .i64 t,.agg #[.int .i64 1,.int .i64 i.a,.int .i64 i.b,.int .i64 i.n]] w (Made w t i):=by
 have H:Hid (i.op=1):=h;clear h;go_enter Tryz.func79,Tryz.ntmps79
 go_wp2_with fail
 go_quiet (fail)
 go_wp2_with fail
 refine(FJ t i H.out _).mono ?_;rintro e w1 ⟨v,rfl,d,c⟩;have j:=il d;have f:=il c;clear d c;go_wp2_with fail
 go_ret;exact Made.grow (w:=_) ⟨v,rfl,j.out,f.out⟩ (iY _ (ir (iu _ _)))
theorem uN(t:Nat)(i:Ins)(h:i.op=2)(w:World):Calls Tryz.prog 79 #[.int .i64 t,.agg #[.int .i64 2,.int .i64 i.a,.int .i64 i.b,.int .i64 i.n]] w (Made w t i):=by
 have H:Hid (i.op=2):=h;clear h;go_enter Tryz.func79,Tryz.ntmps79
 go_wp2_with fail
 go_quiet (fail)
 go_wp2_with fail
 refine(Ek t i H.out _).mono ?_;rintro e w1 ⟨v,rfl,d,c⟩;have j:=il d;have f:=il c;clear d c;go_wp2_with fail
 go_ret;exact Made.grow (w:=_) ⟨v,rfl,j.out,f.out⟩ (iY _ (ir (iu _ _)))
theorem vM(t:Nat)(i:Ins)(h:i.op=3)(w:World):Calls Tryz.prog 79 #[.int .i64 t,.agg #[.int .i64 3,.int .i64 i.a,.int .i64 i.b,.int .i64 i.n]] w (Made w t i):=by
 have H:Hid (i.op=3):=h;clear h;go_enter Tryz.func79,Tryz.ntmps79
 go_wp2_with fail
 go_quiet (fail)
 go_wp2_with fail
 refine(CH t i H.out _).mono ?_;rintro e w1 ⟨v,rfl,d,c⟩;have j:=il d;have f:=il c;clear d c;go_wp2_with fail
 go_ret;exact Made.grow (w:=_) ⟨v,rfl,j.out,f.out⟩ (iY _ (ir (iu _ _)))
theorem vJ(t:Nat)(i:Ins)(h:i.op=4)(w:World):Calls Tryz.prog 79 #[.int .i64 t,.agg #[.int .i64 4,.int .i64 i.a,.int .i64 i.b,.int .i64 i.n]] w (Made w t i):=by
 have H:Hid (i.op=4):=h;clear h;go_enter Tryz.func79,Tryz.ntmps79
 go_wp2_with fail
 go_quiet (fail)
 go_wp2_with fail
 refine(FP t i H.out _).mono ?_;rintro e w1 ⟨v,rfl,d,c⟩;have j:=il d;have f:=il c;clear d c;go_wp2_with fail
 go_ret;exact Made.grow (w:=_) ⟨v,rfl,j.out,f.out⟩ (iY _ (ir (iu _ _)))
theorem vc(t:Nat)(i:Ins)(h:i.op=5)(w:World):Calls Tryz.prog 79 #[.int .i64 t,.agg #[.int .i64 5,.int .i64 i.a,.int .i64 i.b,.int .i64 i.n]] w (Made w t i):=by
 have H:Hid (i.op=5):=h;clear h;go_enter Tryz.func79,Tryz.ntmps79
 go_wp2_with fail
 go_quiet (fail)
 go_wp2_with fail
 refine(Fm t i H.out _).mono ?_;rintro e w1 ⟨v,rfl,d,c⟩;have j:=il d;have f:=il c;clear d c;go_wp2_with fail
 go_ret;exact Made.grow (w:=_) ⟨v,rfl,j.out,f.out⟩ (iY _ (ir (iu _ _)))
theorem vN(t:Nat)(i:Ins)(h:i.op=6)(w:World):Calls Tryz.prog 79 #[.int .i64 t,.agg #[.int .i64 6,.int .i64 i.a,.int .i64 i.b,.int .i64 i.n]] w (Made w t i):=by
 have H:Hid (i.op=6):=h;clear h;go_enter Tryz.func79,Tryz.ntmps79
 go_wp2_with fail
 go_quiet (fail)
 go_wp2_with fail
 refine(Fe t i H.out _).mono ?_;rintro e w1 ⟨v,rfl,d,c⟩;have j:=il d;have f:=il c;clear d c;go_wp2_with fail
 go_ret;exact Made.grow (w:=_) ⟨v,rfl,j.out,f.out⟩ (iY _ (ir (iu _ _)))
theorem vo(t:Nat)(i:Ins)(h:i.op=7)(w:World):Calls Tryz.prog 79 #[.int .i64 t,.agg #[.int .i64 7,.int .i64 i.a,.int .i64 i.b,.int .i64 i.n]] w (Made w t i):=by
 have H:Hid (i.op=7):=h;clear h;go_enter Tryz.func79,Tryz.ntmps79
 go_wp2_with fail
 go_quiet (fail)
 go_wp2_with fail
 refine(Ae t i H.out _).mono ?_;rintro e w1 ⟨v,rfl,d,c⟩;have j:=il d;have f:=il c;clear d c;go_wp2_with fail
 go_ret;exact Made.grow (w:=_) ⟨v,rfl,j.out,f.out⟩ (iY _ (ir (iu _ _)))
theorem uU(t:Nat)(i:Ins)(h:i.op=8)(w:World):Calls Tryz.prog 79 #[.int .i64 t,.agg #[.int .i64 8,.int .i64 i.a,.int .i64 i.b,.int .i64 i.n]] w (Made w t i):=by
 have H:Hid (i.op=8):=h;clear h;go_enter Tryz.func79,Tryz.ntmps79
 go_wp2_with fail
 go_quiet (fail)
 go_wp2_with fail
 refine(EP t i H.out _).mono ?_;rintro e w1 ⟨v,rfl,d,c⟩;have j:=il d;have f:=il c;clear d c;go_wp2_with fail
 go_ret;exact Made.grow (w:=_) ⟨v,rfl,j.out,f.out⟩ (iY _ (ir (iu _ _)))
theorem vx(t:Nat)(i:Ins)(h:i.op=9)(w:World):Calls Tryz.prog 79 #[.int .i64 t,.agg #[.int .i64 9,.int .i64 i.a,.int .i64 i.b,.int .i64 i.n]] w (Made w t i):=by
 have H:Hid (i.op=9):=h;clear h;go_enter Tryz.func79,Tryz.ntmps79
 go_wp2_with fail
 go_quiet (fail)
 go_wp2_with fail
 refine(E4 t i H.out _).mono ?_;rintro e w1 ⟨v,rfl,d,c⟩;have j:=il d;have f:=il c;clear d c;go_wp2_with fail
 go_ret;exact Made.grow (w:=_) ⟨v,rfl,j.out,f.out⟩ (iY _ (ir (iu _ _)))
theorem tL(t:Nat)(i:Ins)(h:i.op=10)(w:World):Calls Tryz.prog 79 #[.int .i64 t,.agg #[.int .i64 10,.int .i64 i.a,.int .i64 i.b,.int .i64 i.n]] w (Made w t i):=by
 have H:Hid (i.op=10):=h;clear h;go_enter Tryz.func79,Tryz.ntmps79
 go_wp2_with fail
 go_quiet (fail)
 go_wp2_with fail
 refine(yE t i H.out _).mono ?_;rintro e w1 ⟨v,rfl,d,c⟩;have j:=il d;have f:=il c;clear d c;go_wp2_with fail
 go_ret;exact Made.grow (w:=_) ⟨v,rfl,j.out,f.out⟩ (iY _ (ir (iu _ _)))
theorem tO(t:Nat)(i:Ins)(h:i.op=11)(w:World):Calls Tryz.prog 79 #[.int .i64 t,.agg #[.int .i64 11,.int .i64 i.a,.int .i64 i.b,.int .i64 i.n]] w (Made w t i):=by
 have H:Hid (i.op=11):=h;clear h;go_enter Tryz.func79,Tryz.ntmps79
 go_wp2_with fail
 go_quiet (fail)
 go_wp2_with fail
 refine(AJ t i H.out _).mono ?_;rintro e w1 ⟨v,rfl,d,c⟩;have j:=il d;have f:=il c;clear d c;go_wp2_with fail
 go_ret;exact Made.grow (w:=_) ⟨v,rfl,j.out,f.out⟩ (iY _ (ir (iu _ _)))
theorem vQ(t:Nat)(i:Ins)(h1:1<=i.op)(h2:i.op<=11)(w:World):Calls Tryz.prog 79 #[.int .i64 t,.agg #[.int .i64 i.op,.int .i64 i.a,.int .i64 i.b,.int .i64 i.n]] w (Made w t i):=by
 have hc:i.op=1\/i.op=2\/i.op=3\/i.op=4\/i.op=5\/i.op=6\/i.op=7\/i.op=8\/i.op=9\/i.op=10\/i.op=11:=by omega
 rcases hc with e | e | e | e | e | e | e | e | e | e | e
 ·rw [e];exact vI t i e w
 ·rw [e];exact uN t i e w
 ·rw [e];exact vM t i e w
 ·rw [e];exact vJ t i e w
 ·rw [e];exact vc t i e w
 ·rw [e];exact vN t i e w
 ·rw [e];exact vo t i e w
 ·rw [e];exact uU t i e w
 ·rw [e];exact vx t i e w
 ·rw [e];exact tL t i e w
 ·rw [e];exact tO t i e w
theorem x7{w:World}{g:Nat}{x0 x1 x2 x3:Value}{t:TypeId}(h:w.heap[g]?=some (.cells #[x0,x1,x2,x3] t (0,0))):
  w.cell? ⟨g,0,none⟩=some x0/\w.cell? ⟨g,1,none⟩=some x1/\w.cell? ⟨g,2,none⟩=some x2/\w.cell? ⟨g,3,none⟩=some x3/\(∀ o,w.frozen? ⟨g,o,none⟩=false):=by
 simp [World.cell?,World.frozen?,h]
def Dh(w:World)(t:Nat)(i:Ins)(e:Ending)(w':World):Prop:=
 ∃ kf caps,e= .returned (.agg #[.func (.func kf) #[] caps,.bool (i.op==9),.int .i64 (if i.op=9 then i.a else 0)])/\(∀ w2:World,(∀ k,w.heap.size<=k->k<w'.heap.size->w2.heap[k]?=w'.heap[k]?)->ActIs w'.heap.size w2 (.func (.func kf) #[] caps) t i)/\w.grownBy w' none
theorem ActIs.form{B:Nat}{w:World}{v:Value}{t:Nat}{i:Ins}(h:ActIs B w v t i):∃ kf caps,v= .func (.func kf) #[] caps:=by
 obtain⟨x,y,z,u,_,_,_,_,h⟩:=h;rcases h with ⟨_,e,_⟩ | ⟨_,e,_⟩ | ⟨_,e,_⟩ | ⟨_,_,e,_⟩ | ⟨_,e,_⟩ | ⟨_,e,_⟩ | ⟨_,e,_⟩ | ⟨_,e,_⟩ | ⟨_,e,_⟩<;>exact⟨_,_,e⟩
theorem yZ(t:Nat)(i:Ins)(H:1<=i.op)(F:i.op<=11)(w:World):Calls Tryz.prog 49 #[.int .i64 t,.agg #[.int .i64 i.op,.int .i64 i.a,.int .i64 i.b,.int .i64 i.n]] w (Dh w t i):=by
 go_enter Tryz.func49,Tryz.ntmps49
 go_wp2_with fail
 refine(vQ t i H F _).mono ?_;rintro e c ⟨v,rfl,q,f⟩;obtain⟨j,h,rfl⟩:=(q c fun _ _ _=>rfl).form;have y:=il q;have E:=il f;have hsz:w.heap.size+2<=c.heap.size:=by have:=f.size;simpa using this
 have r:c.heap[w.heap.size]?=some (.cells #[.int .i64 i.op,.int .i64 i.a,.int .i64 i.b,.int .i64 i.n] 65 (0,0)):=by
  rw [f.block _ (by simp;omega) (by simp),Below.heap_alloc _ _ _ (by simp)];exact heap_alloc_new w _
 have x:c.heap[w.heap.size+1]?=some (.cells #[.nilFunc,.bool false,.int .i64 0] 115 (0,0)):=by
  rw [f.block _ (by simp) (by simp)];have:=heap_alloc_new (w.alloc (.cells #[.int .i64 i.op,.int .i64 i.a,.int .i64 i.b,.int .i64 i.n] 65)) (.cells #[.nilFunc,.bool false,.int .i64 0] 115);simpa using this
 clear q f;obtain⟨c0,c1,I,G,_⟩:=x7 r;obtain⟨A,u,z,s⟩:=l8 x;have dfa:∀ (o:Obj) (k:Nat),(c.alloc o).frozen? ⟨w.heap.size+1,k,none⟩=false:=fun o k=>by
  rw [World.frozen?_alloc_old _ _ _ (by simp;omega)];exact s k
 clear s r x I G;have B:Hid (w.grownBy c none):=ip (ir (ir (iu _ _))) E.out;by_cases d:i.op=9
 ·have l:=il d;have p:(i.op==9)=true:=by simpa using d
  clear d;go_wp2_with fail
  refine bodyPost_ret (v:= .agg #[.func (.func j) #[] h,.bool true,.int .i64 i.a]) ?_ rfl ⟨j,h,?_,?_,?_⟩
  ·simp [results,Tryz.results49,go_sem,A,u,z]
  ·rw [p,if_pos l.out]
  ·intro C m;refine(y.out _ fun k hk hk2=>?_).mono (by simp);rw [m k (by simp at hk;omega) (by simp;omega)];have D:w.heap.size+2<=k:=by simpa using hk
   rw [Below.heap_setCell _ _ _ _ (by simp;omega),Below.heap_setCell _ _ _ _ (by simp;omega),Below.heap_setCell _ _ _ _ (by simp;omega),Below.heap_alloc _ _ _ hk2]
  ·iterate 3 refine iG ?_ (by omega)
   exact ir B.out
 ·have l:=il d;have p:(i.op==9)=false:=by simpa using d
  clear d;go_wp2_with fail
  refine bodyPost_ret (v:= .agg #[.func (.func j) #[] h,.bool false,.int .i64 0]) ?_ rfl ⟨j,h,?_,?_,?_⟩
  ·simp [results,Tryz.results49,go_sem,A,u,z]
  ·rw [p,if_neg l.out]
  ·intro C m;refine(y.out _ fun k hk hk2=>?_).mono (by simp);rw [m k (by simp at hk;omega) (by simp;omega)];have D:w.heap.size+2<=k:=by simpa using hk
   rw [Below.heap_setCell _ _ _ _ (by simp;omega),Below.heap_setCell _ _ _ _ (by simp;omega),Below.heap_setCell _ _ _ _ (by simp;omega),Below.heap_alloc _ _ _ hk2]
  ·iterate 3 refine iG ?_ (by omega)
   exact ir B.out
def uG(kf:Nat)(caps:Array Value)(i:Ins):List Value:=[.func (.func kf) #[] caps,.bool (i.op==9),.int .i64 (if i.op=9 then i.a else 0)]
def Fc(a b:Nat)(w:World)(v:Value)(t:Nat)(i:Ins):Prop:=∀ w':World,(∀ k,a<=k->k<b->w'.heap[k]?=w.heap[k]?)->ActIs b w' v t i
def MovesIn(L B:Nat)(w:World)(own:Option Nat)(xs:List Value)(t:Nat)(c:List Ins):Prop:=
 ∀ k (hk:k<c.length),∃ kf caps a b,xs[k*3]?=some (.func (.func kf) #[] caps)/\xs[k*3+1]?=some (.bool (c[k].op==9))/\xs[k*3+2]?=some (.int .i64 (if c[k].op=9 then c[k].a else 0))/\
  L<=a/\b<=B/\(∀ h,own=some h->h<a\/b<=h)/\Fc a b w (.func (.func kf) #[] caps) t c[k]
theorem MovesIn.step{L B:Nat}{w w':World}{own r:Option Nat}{xs:List Value}{t:Nat}{c:List Ins}(h:MovesIn L B w own xs t c)(hB:B<=w.heap.size)(s:w.grownBy w' r)(l:∀ q,r=some q->own=some q\/q<L\/B<=q):MovesIn L B w' own xs t c:=by
 intro k i;obtain⟨u,p,a,b,n,j,f,m,v,d,o⟩:=h k i;refine⟨u,p,a,b,n,j,f,m,v,d,fun w2 hw2=>o w2 fun q hq hq2=>?_⟩;rw [hw2 q hq hq2,s.block q (by omega) (fun e=>by
  rcases l q e.symm with e2 | e2 | e2
  ·rcases d q e2 with e3 | e3<;>omega
  ·omega
  ·omega)]
theorem MovesIn.mono{L B d:Nat}{w:World}{own:Option Nat}{xs:List Value}{t:Nat}{c:List Ins}(h:MovesIn L B w own xs t c)(hB:B<=d):MovesIn L d w own xs t c:=by
 intro k f;obtain⟨p,o,a,b,m,i,e,l,h5,j,n⟩:=h k f;exact⟨p,o,a,b,m,i,e,l,by omega,j,n⟩
theorem MovesIn.reown{L B g:Nat}{w:World}{own:Option Nat}{xs:List Value}{t:Nat}{c:List Ins}(h:MovesIn L B w own xs t c)(i:own=some g\/B<=g):MovesIn L B w (some g) xs t c:=by
 intro k j;obtain⟨l,d,a,b,r,n,f,p,m,o,s⟩:=h k j;refine⟨l,d,a,b,r,n,f,p,m,fun q e=>?_,s⟩;cases e
 rcases i with e | e
 ·exact o _ e
 ·exact Or.inr (by omega)
theorem MovesIn.snoc{L B:Nat}{w:World}{own:Option Nat}{xs:List Value}{t:Nat}{c:List Ins}{i:Ins}{f:Nat}{d:Array Value}{a b:Nat}(h:MovesIn L B w own xs t c)(j:xs.length=c.length*3)
  (v:L<=a) (x:b<=B) (C:∀ h,own=some h->h<a\/b<=h) (y:Fc a b w (.func (.func f) #[] d) t i):
  MovesIn L B w own (xs++uG f d i) t (c++[i]):=by
 intro k n;by_cases l:k<c.length
 ·obtain⟨o,z,A,p,s,q,m,r⟩:=h k l;have e:(c++[i])[k]=c[k]:=List.getElem_append_left l;refine⟨o,z,A,p,?_,?_,?_,?_⟩
  ·rw [List.getElem?_append_left (by omega)];exact s
  ·rw [List.getElem?_append_left (by omega),e];exact q
  ·rw [List.getElem?_append_left (by omega),e];exact m
  ·rw [e];exact r
 ·have u:k=c.length:=by simp at n;omega
  subst u;have e:(c++[i])[c.length]=i:=by simp
  refine⟨f,d,a,b,?_,?_,?_,v,x,C,?_⟩
  ·rw [List.getElem?_append_right (by omega),j];simp [uG]
  ·rw [List.getElem?_append_right (by omega),j,e];have:c.length*3+1 - c.length*3=1:=by omega
   rw [this];rfl
  ·rw [List.getElem?_append_right (by omega),j,e];have:c.length*3+2 - c.length*3=2:=by omega
   rw [this];rfl
  ·rw [e];exact y
def Fin(L B:Nat)(w:World)(rows:Array Value)(t:Nat)(p:List (List Ins)):Prop:=
 ∀ j,j<t->∃ v xs,rows[j]?=some v/\w.ownsRow L 115 3 v (iP p j).length xs/\(∀ h,v.ownBlock=some h->h<B)/\MovesIn L B w v.ownBlock xs j (iP p j)
theorem Fin.step{L B:Nat}{w w':World}{rows:Array Value}{t:Nat}{p:List (List Ins)}{r:Option Nat}(h:Fin L B w rows t p)(l:B<=w.heap.size)(d:w.grownBy w' r)(c:∀ k,r=some k->k<L\/B<=k):Fin L B w' rows t p:=by
 intro j s;obtain⟨v,xs,m,f,b,i⟩:=h j s;refine⟨v,xs,m,?_,b,i.step l d (fun q e=>Or.inr (c q e))⟩;obtain⟨n,a⟩:=f;refine⟨n,?_⟩;rcases a with a | ⟨g,cap,cur,hv,hb,hh,rest⟩
 ·exact Or.inl a
 ·have o:g<w.heap.size:=(Array.getElem?_eq_some_iff.1 hh).1;have hB:=b g (by rw [hv];rfl);refine Or.inr ⟨g,cap,cur,hv,hb,?_,rest⟩;rw [d.block g o (fun e=>by have:=c g e.symm;omega)];exact hh
theorem Fin.rows{L B:Nat}{w:World}{rows:Array Value}{t u:Nat}{x:Value}{p:List (List Ins)}(h:Fin L B w rows t p)(hu:t<=u):Fin L B w (rows.setIfInBounds u x) t p:=by
 intro j e;obtain⟨v,xs,d,b,a,c⟩:=h j e;exact⟨v,xs,by rw [Array.getElem?_setIfInBounds_ne (by omega)];exact d,b,a,c⟩
theorem Fin.mono{L B b:Nat}{w:World}{rows:Array Value}{t:Nat}{p:List (List Ins)}(h:Fin L B w rows t p)(a:B<=b):Fin L b w rows t p:=by
 intro j k;obtain⟨v,xs,i,d,c,f⟩:=h j k;exact⟨v,xs,i,d,fun h e=>Nat.lt_of_lt_of_le (c h e) a,f.mono a⟩
theorem Fin.succ{L B:Nat}{w:World}{rows:Array Value}{t:Nat}{p:List (List Ins)}{v:Value}{xs:List Value}(h:Fin L B w rows t p)(d:rows[t]?=some v)(b:w.ownsRow L 115 3 v (iP p t).length xs)
  (a:∀ h,v.ownBlock=some h->h<B) (c:MovesIn L B w v.ownBlock xs t (iP p t)):Fin L B w rows (t+1) p:=by
 intro j hj;by_cases e:j=t
 ·subst e;exact⟨v,xs,d,b,a,c⟩
 ·exact h j (by omega)
theorem Fin.rowIs{L B:Nat}{w:World}{rows:Array Value}{t:Nat}{p:List (List Ins)}(h:Fin L B w rows t p){j:Nat}(d:j<t):∃ v,rows[j]?=some v/\RowIs B w v j (iP p j):=by
 obtain⟨v,xs,l,c,f,i⟩:=h j d;refine⟨v,l,?_⟩;rcases c.2 with ⟨e,e0⟩ | ⟨g,cap,cur,hv,hb,hh,hrest⟩
 ·exact Or.inl ⟨List.length_eq_zero_iff.1 e0,e⟩
 ·refine Or.inr ⟨g,cap,hv,f g (by rw [hv];rfl),fun k hk=>?_⟩;obtain⟨r,o,a,b,n,u,m,q4,q,q6,s⟩:=i k hk;rw [hv]at c;have hc:=fun j d=>c.cellAt j d
  exact⟨r,o,by rw [hc _ (by omega)];exact n,(s w fun _ _ _=>rfl).mono q,by rw [hc _ (by omega)];exact u,by rw [hc _ (by omega)];exact m⟩
theorem Bm:((Tryz.prog.info? 115).map fun i=>(i.zero,i.size,i.bytes))=some (some (.agg #[.nilFunc,.bool false,.int .i64 0]),3,24):=by kernel_rfl
theorem CK:((Tryz.prog.info? 111).map fun i=>(i.zero,i.size,i.bytes))=some (some (.slice none 0 0),1,24):=by kernel_rfl
end
end Go.Proofs.YtklenjmfalljgabGreatDoor
