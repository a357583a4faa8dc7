/- The texts Fol Run Val Mk Mk2 New New2 Rep Awk Sch Sch2 Rfa Eq4 Svd Ins Prg Prg2 Fld Nil. -/
import Derived.Test.YtklenjmfalljgabGreatDoorM00
import Derived.Test.YtklenjmfalljgabGreatDoorM04
import Derived.Deep.AppendLies
import Derived.OwnWalk
import Derived.Laws.CopyRow
import Derived.ChangeKeysEq
namespace Go.Proofs.YtklenjmfalljgabGreatDoor
set_option maxRecDepth 100000
set_option maxHeartbeats 8000000
section
open Go.RowKit
theorem mA(x n:Int)(w:World):Calls Tryz.prog 80 #[.int .i64 x,.int .i64 n] w fun e w'=>e= .returned (.bool (belowB x n))/\w'=w:=by
 by_cases a:0<=x
 ·by_cases b:x<n
  ·have HB:Hid (belowB x n=true):=by unfold Hid;simp [belowB,a,b]
   go_enter Tryz.func80,Tryz.ntmps80
   go_wp2
   go_ret;exact⟨by rw [HB.out];rfl,rfl⟩
  ·have HB:Hid (belowB x n=false):=by unfold Hid;simp [belowB,a,b]
   have c:n<=x:=by omega
   go_enter Tryz.func80,Tryz.ntmps80
   go_wp2
   go_ret;exact⟨by rw [HB.out];rfl,rfl⟩
 ·have HB:Hid (belowB x n=false):=by unfold Hid;simp [belowB,a]
  have c:x<0:=by omega
  go_enter Tryz.func80,Tryz.ntmps80
  go_wp2
  go_ret;exact⟨by rw [HB.out];rfl,rfl⟩
def IntsAt(B:Nat)(w:World)(v:Value)(l:List Int):Prop:=
 ∃ ao cap,v= .slice ao l.length cap/\l.length<=cap/\∀ k (hk:k<l.length),∃ g o,ao=some ⟨g,o,none⟩/\g<B/\w.cell? ⟨g,o+k,none⟩=some (.int .i64 l[k])
def flatS(acc:List (Int × Int)):List Value:=acc.flatMap fun x=>[.int .i64 x.1,.int .i64 x.2]
theorem kE(acc:List (Int × Int))(x:Int × Int):flatS (acc++[x])=flatS acc++[.int .i64 x.1,.int .i64 x.2]:=by simp [flatS]
theorem iC{w w':World}{base:Nat}{e:TypeId}{b:Nat}{v:Value}{n:Nat}{xs:List Value}{r:Option Nat}(h:w.ownsRow base e b v n xs)(d:w.grownBy w' r)(i:∀ k,r=some k->k<base):w'.ownsRow base e b v n xs:=by
 obtain⟨c,a⟩:=h;refine⟨c,?_⟩;rcases a with a | ⟨g,cap,cur,hv,hb,hh,rest⟩
 ·exact Or.inl a
 ·have f:g<w.heap.size:=(Array.getElem?_eq_some_iff.1 hh).1;refine Or.inr ⟨g,cap,cur,hv,hb,?_,rest⟩;rw [d.block g f (fun e=>by have:=i g e.symm;omega)];exact hh
theorem iA{w:World}{base:Nat}{e:TypeId}{b:Nat}{v:Value}{n:Nat}{xs:List Value}(h:w.ownsRow base e b v n xs):∀ k,v.ownBlock=some k->base<=k:=by
 rcases h.2 with ⟨e1,_⟩ | ⟨g,cap,cur,hv,hb,_⟩
 ·intro k a;rw [e1]at a;cases a
 ·intro k a;rw [hv]at a;simp [Value.ownBlock]at a;omega
theorem qf:((Tryz.prog.info? 76).map fun i=>(i.zero,i.size,i.bytes))=some (some (.agg #[.int .i64 0,.int .i64 0]),2,16):=by kernel_rfl
theorem iK{w:World}{base a:Nat}{e:TypeId}{b:Nat}{v:Value}{n:Nat}{xs:List Value}(h:w.ownsRow base e b v n xs)(hb:a<=base):w.ownsRow a e b v n xs:=by
 obtain⟨d,f⟩:=h;refine⟨d,f.imp id ?_⟩;rintro⟨g,c,cur,i,hg,j⟩;exact⟨g,c,cur,i,by omega,j⟩
theorem iD{w w':World}{r:Option Nat}{g o:Nat}{v:Value}(h:w.grownBy w' r)(hg:w.heap.size<=g):w.grownBy (w'.setCell ⟨g,o,none⟩ v) r:=
 ⟨h.os,h.tape,h.output,by simpa using h.size,fun k hk hr=>by rw [Below.heap_setCell _ _ _ _ (by simp;omega)];exact h.block k hk hr⟩
theorem StAt.setOther{w:World}{b:Nat}{s:St}{g o:Nat}{v:Value}(h:StAt w b s)(a:b≠g):StAt (w.setCell ⟨g,o,none⟩ v) b s:=by
 unfold StAt at*;rw [Below.heap_setCell _ _ _ _ (by simpa using a)];exact h
theorem lM{w w':World}{r:Option Nat}{o:Obj}(h:(w.alloc o).grownBy w' r):w.grownBy w' r:=il (iq (ir w r)) h
theorem lT{w w':World}{b:Nat}{o:Obj}(h:(w.alloc o).grownBy w' (some b))(hb:b<w.heap.size):w'.heap[w.heap.size]?=some o:=by
 rw [h.block w.heap.size (by simp) (by simp;omega)];show (w.heap.push o)[w.heap.size]?=some o
 simp
theorem jN{w w':World}{r:Option Nat}(h:w.grownBy w' none):w.grownBy w' r:=⟨h.os,h.tape,h.output,h.size,fun k hk _=>h.block k hk (by simp)⟩
theorem iZ{w0 w w':World}{r:Option Nat}{v:Value}(h:w0.grownBy w r)(hg:w.grownBy w' v.ownBlock)(hv:∀ k,v.ownBlock=some k->w0.heap.size<=k):w0.grownBy w' r:=
 ⟨hg.os.trans h.os,hg.tape.trans h.tape,hg.output.trans h.output,Nat.le_trans h.size hg.size,fun k hk hr=>by
  rw [hg.block k (Nat.lt_of_lt_of_le hk h.size) (fun e=>by have:=hv k e.symm;omega)];exact h.block k hk hr⟩
theorem StAt.rowGrown{w w':World}{b:Nat}{s:St}{v:Value}(h:StAt w b s)(a:w.grownBy w' v.ownBlock)(d:∀ k,v.ownBlock=some k->b<k):StAt w' b s:=by
 have c:=h.lt;unfold StAt at*;rw [a.block b c (fun e=>by have:=d b e.symm;omega)];exact h
theorem iG{w:World}{base:Nat}{e:TypeId}{size:Nat}{v:Value}{n:Nat}{xs:List Value}{o:Obj}(h:w.ownsRow base e size v n xs):(w.alloc o).ownsRow base e size v n xs:=
 iC h (iq (ir w none)) (fun _ e=>by cases e)
theorem jS{w:World}{g:Nat}{x y z:Value}{t:TypeId}(h:w.heap[g]?=some (.cells #[x,y,z] t (0,0))):
  w.cell? ⟨g,0,none⟩=some x/\w.cell? ⟨g,1,none⟩=some y/\w.cell? ⟨g,2,none⟩=some z/\(∀ o,w.frozen? ⟨g,o,none⟩=false):=by
 simp [World.cell?,World.frozen?,h]
def Followed(w:World)(b:Nat)(o:Out)(e:Ending)(w':World):Prop:=
 ∃ sv,e= .returned (.tuple #[sv,.agg #[.int .i64 o.kind,.int .i64 o.thread,.int .i64 o.at_]])/\w'.ownsRow w.heap.size 76 2 sv o.steps.length (flatS o.steps)/\
  StAt w' b o.st/\w.grownBy w' (some b)
theorem xY{B m b:Nat}{w:World}{p:List (List Ins)}{j:St}{v:Value}{c:List Int}(hp:vProg p=true)(hM:MachAt B w m p)(P:B<=b)(hs:StAt w b j)(hI:Inv p j)
  (hv:IntsAt B w v c) (h500:c.length<=500):
  Calls Tryz.prog 50 #[.pointer (some ⟨m,0,none⟩),.pointer (some ⟨b,0,none⟩),v] w (Followed w b (follow p c 0 j [])):=by
 obtain⟨i0,Y,ad,aG,aH⟩:=info_parts qf;obtain⟨ao,cap,rfl,hcap,aA⟩:=hv;have Q:=hs.lt;have hlen:=iW hp;have HM:Hid (MachAt B w m p):=hM;have HS:Hid (StAt w b j):=hs;have HI:Hid (Inv p j):=hI;have O:Hid (vProg p=true):=hp;have HC:Hid (∀ k (hk:k<c.length),∃ g o,ao=some ⟨g,o,none⟩/\g<B/\w.cell? ⟨g,o+k,none⟩=some (.int .i64 c[k])):=aA;obtain⟨g,a5,hm,hg,h1,h2⟩:=hM;have h3:(p.length:Int)<=4:=by omega
 have h4:(c.length:Int)<=500:=by omega
 clear h2 hs hI hp aA;have HI0:Hid (Tryz.prog.info? 76=some i0):=Y;have HZ0:=ad;go_enter Tryz.func50,Tryz.ntmps50
 go_wp2_with (at_make;refine wpList_make_own _ rfl _ _ _ rfl (w.heap.size+1) 76 i0 _ 2 Tryz.underlying27 Y ad aG .i64 .i64 _ c.length rfl rfl rfl (by rw [aH];omega) (by unfold maxLen;omega) (by simp) ?_;intro w0 aC V)
 have am:Hid (w0.ownsRow (w.heap.size+1) 76 2 (.slice (some ⟨w.heap.size+1,0,none⟩) 0 c.length) 0 []):=by unfold Hid;simpa using aC
 have ai:Hid ((w.alloc (.cells #[.int .i64 0,.int .i64 0,.int .i64 0] 26)).grownBy w0 (some b)):=jN V;have aw:=(show Hid _ from V);clear aC V;go_loopw [8,17] (fun sv i w'=>∃ (k:Nat) (s:St) (f:List (Int × Int)),k<=c.length/\i= .int .i64 k/\f.length=k/\Hid (w'.ownsRow (w.heap.size+1) 76 2 sv k (flatS f))/\
   Hid (StAt w' b s)/\Hid (Inv p s)/\Hid ((w.alloc (.cells #[.int .i64 0,.int .i64 0,.int .i64 0] 26)).grownBy w' (some b))/\
   Hid (follow p c 0 j []=follow p (c.drop k) k s f)) (fun _ i _=>c.length - (intOf i).toNat)
 case atStart=>
  refine⟨0,j,[],Nat.zero_le _,rfl,rfl,am,?_,HI,ai,rfl⟩;have hh:w0.heap[b]?=w.heap[b]?:=by rw [aw.out.block b (by simp;omega) (by simp),Below.heap_alloc _ _ _ (by omega)]
  have a1:=HS.out;unfold StAt at*;unfold Hid;rw [hh];exact a1
 case round=>
  clear am ai aw;obtain⟨k,s,f,hk,rfl,J,N,H,L,y,I⟩:=hrel;have l:=lT y.out Q;obtain⟨n,q,u,d⟩:=jS l;have C:=d 0;have D:=d 1;have E:=d 2;have HV:Hid (∀ o,wr.frozen? ⟨w.heap.size,o,none⟩=false):=d;clear d l;have a2:w.heap.size+1<=wr.heap.size:=by have:=y.out.size;simpa using this
  have M:Hid (MachAt B wr m p):=(HM.out.grown' (by omega) (iq (ir w none))).grown P (by simp;omega) y.out;by_cases aB:k<c.length
  ·obtain⟨gb,go,rfl,hgb,hc⟩:=HC.out k aB;have aW:wr.cell? ⟨gb,go+k,none⟩=some (.int .i64 c[k]):=by
    rw [y.out.cell_far _ (by simp;omega) (by simp;omega),World.cell?_alloc_lt _ _ _ (by simp;omega)];exact hc
   clear hc;have K:Hid (c.drop k=c[k]::c.drop (k+1)):=List.drop_eq_getElem_cons aB;generalize c[k]=t at*;have aZ:wr.cell? ⟨m,0,none⟩=some (.slice (some ⟨g,0,none⟩) p.length a5):=by
    rw [y.out.cell_far _ (by simp;omega) (by simp;omega),World.cell?_alloc_lt _ _ _ (by simp;omega)];exact h1
   have hk0:(0:Int)<=(k:Int):=by omega
   have hk1:(k:Int)<c.length:=by omega
   have hk2:(k:Int)<500:=by omega
   go_wp2_with fail
   refine(mA t p.length wr).mono ?_;rintro e h ⟨rfl,rfl⟩;cases hbl:belowB t p.length
   ·have z:Hid (follow p c 0 j []=⟨f,2,0,k,s⟩):=by
     unfold Hid;rw [I.out,K.out];exact jh _ _ _ _ _ _ (by simp [okAt,hbl])
    clear hbl;go_wp2
    rw [z.out];exact bodyPost_ret (v:= .tuple #[u8,.agg #[.int .i64 2,.int .i64 0,.int .i64 k]]) (by simp [results,Tryz.results50,go_sem,n,q,u]) rfl
     ⟨u8,rfl,by rw [J];exact iK (ownsRow_setCell_below (ownsRow_setCell_below (ownsRow_setCell_below N.out (by simp) _) (by simp) _) (by simp) _) (by omega),((H.out.setOther (by omega)).setOther (by omega)).setOther (by omega),iD (iD (iD (lM y.out) (by omega)) (by omega)) (by omega)⟩
   ·have ht:0<=t/\t<p.length:=by simpa [belowB]using hbl
    obtain⟨a,rfl⟩:=Int.eq_ofNat_of_zero_le ht.1;have ac:a<p.length:=by omega
    have HT:Hid (belowB (a:Int) p.length=true):=hbl;clear hbl ht;go_wp2_with fail
    refine(uY O.out M.out H.out L.out ac).mono ?_;rintro e h ⟨rfl,x⟩;have A:Hid ((w.alloc (.cells #[.int .i64 0,.int .i64 0,.int .i64 0] 26)).grownBy h (some b)):=il y.out (jN x);have F:Hid (h.ownsRow (w.heap.size+1) 76 2 u8 k (flatS f)):=iC N.out x (fun _ e=>by cases e);have G:Hid (StAt h b s):=H.out.grown x;have aL:Hid (MachAt B h m p):=M.out.grown' (by omega) x;have hsz1:w.heap.size+1<=h.heap.size:=by have:=A.out.size;simpa using this
    clear n q u C D E HV aW aZ x M H N y a2;have l:=lT A.out Q;obtain⟨n,q,u,d⟩:=jS l;have C:=d 0;have D:=d 1;have E:=d 2;clear d l;cases hrd:readyB p s a
    ·have z:Hid (follow p c 0 j []=⟨f,2,0,k,s⟩):=by
      unfold Hid;rw [I.out,K.out];exact jh _ _ _ _ _ _ (by simp [okAt,hrd])
     clear hrd;go_wp2
     rw [z.out];exact bodyPost_ret (v:= .tuple #[u8,.agg #[.int .i64 2,.int .i64 0,.int .i64 k]]) (by simp [results,Tryz.results50,go_sem,n,q,u]) rfl
      ⟨u8,rfl,by rw [J];exact iK (ownsRow_setCell_below (ownsRow_setCell_below (ownsRow_setCell_below F.out (by simp) _) (by simp) _) (by simp) _) (by omega),((G.out.setOther (by omega)).setOther (by omega)).setOther (by omega),iD (iD (iD (lM A.out) (by omega)) (by omega)) (by omega)⟩
    ·have HK:Hid (okAt p s a=true):=by unfold Hid;simp [okAt,hrd,HT.out]
     have ah:Hid (doneB p s a=false):=by
      unfold Hid;cases hd:doneB p s a with
      | false=>rfl
      | true=>simp [readyB,hd]at hrd
     clear hrd;have a3:a<4:=by omega
     have a0:=G.out.next a3;have ht0:(0:Int)<=(a:Int):=by omega
     have ht1:(a:Int)<4:=by omega
     have aT:k+1<=maxLen:=by unfold maxLen;omega
     have aV:(k+1)*16<=140737488355328:=by omega
     go_wp2_with (at_builtin;refine wpList_append_lies _ rfl _ _ _ rfl (w.heap.size+1) 76 i0 _ 2 16 Tryz.underlying27 Y ad aG aH rfl (by omega) u8 k (flatS f) rfl (iG F.out) ⟨h.heap.size,0,none⟩ 1 1 [.int .i64 a,.int .i64 (s.next a)] rfl rfl (World.news_of_block (cs:= #[.int .i64 a,.int .i64 (s.next a)]) (t:=76) (fr:=(0,0)) (heap_alloc_new h _)) (by simp [Value.oneCell']) (by omega) aT aV (by simp;omega) (h.heap.size+1) (by simp) ?_;intro g2 U R aD X aU hlt2)
     have Z:=iA F.out;have S:Hid ((w.alloc (.cells #[.int .i64 0,.int .i64 0,.int .i64 0] 26)).grownBy R (some b)):=iZ (iq A.out) X (fun k e=>by have:=Z k e;simp;omega);have ar:Hid (StAt R b s):=StAt.rowGrown (G.out.grown (iq (ir _ _))) X (fun k e=>by have:=Z k e;omega);have al:Hid (MachAt B R m p):=(HM.out.grown' (by omega) (iq (ir w none))).grown P (by simp;omega) S.out;have an:Hid (R.ownsRow (w.heap.size+1) 76 2 (.slice (some ⟨g2,0,none⟩) (k+1) U) (k+1) (flatS (f++[((a:Int),s.next a)]))):=by
      unfold Hid;rw [kE];exact aD
     clear n q u C D E Z X aU aD G aL F A a0;refine(BZ O.out al.out P ar.out L.out ac ah.out).mono ?_;rintro e w3 ⟨r,rfl,hr,az,W⟩;have T:Hid ((w.alloc (.cells #[.int .i64 0,.int .i64 0,.int .i64 0] 26)).grownBy w3 (some b)):=il S.out W;have ap:Hid (w3.ownsRow (w.heap.size+1) 76 2 (.slice (some ⟨g2,0,none⟩) (k+1) U) (k+1) (flatS (f++[((a:Int),s.next a)]))):=iC an.out W (fun k e=>by cases e;omega);have au:Hid (StAt w3 b (stepS p s a).2):=az;have aK:Hid (Inv p (stepS p s a).2):=Inv.step O.out L.out ac ah.out;have HR:Hid (r=(stepS p s a).1):=hr;clear hr az W an al ar S;have l:=lT T.out Q;obtain⟨n,q,u,d⟩:=jS l;have C:=d 0;have D:=d 1;have E:=d 2;clear d l;cases r
     ·have z:Hid (follow p c 0 j []=⟨f++[((a:Int),s.next a)],1,a,s.next a,(stepS p s a).2⟩):=by
       unfold Hid;rw [I.out,K.out,kk p a _ _ s f HK.out (by simpa using HR.out.symm)];rfl
      go_wp2
      rw [z.out];exact bodyPost_ret (v:= .tuple #[.slice (some ⟨g2,0,none⟩) (k+1) U,.agg #[.int .i64 1,.int .i64 a,.int .i64 (s.next a)]]) (by simp [results,Tryz.results50,go_sem,n,q,u]) rfl
       ⟨_,rfl,by
        have e:(f++[((a:Int),s.next a)]).length=k+1:=by simp [J]
        simp only [e];exact iK (ownsRow_setCell_below (ownsRow_setCell_below (ownsRow_setCell_below ap.out (by simp) _) (by simp) _) (by simp) _) (by omega),((au.out.setOther (by omega)).setOther (by omega)).setOther (by omega),iD (iD (iD (lM T.out) (by omega)) (by omega)) (by omega)⟩
     ·have z:Hid (follow p c 0 j []=follow p (c.drop (k+1)) ((k+1:Nat):Int) (stepS p s a).2 (f++[((a:Int),s.next a)])):=by
       unfold Hid;rw [I.out,K.out,kS p a _ _ s f HK.out (by simpa using HR.out.symm)];rfl
      clear n q u C D E;go_wp2
      go_roundw
      case rel=>exact⟨k+1,(stepS p s a).2,f++[((a:Int),s.next a)],by omega,by go_num,by simp [J],ap,au,aK,T,z⟩
      case measure=>simp [intOf];omega
  ·have z:Hid (follow p c 0 j []=⟨f,endingS p s,0,0,s⟩):=by
    unfold Hid;rw [I.out,List.drop_of_length_le (by omega)];rfl
   go_wp2_with fail
   refine(xS O.out M.out P H.out L.out).mono ?_;rintro e h ⟨rfl,x⟩;have A:Hid ((w.alloc (.cells #[.int .i64 0,.int .i64 0,.int .i64 0] 26)).grownBy h (some b)):=il y.out (jN x);have F:Hid (h.ownsRow (w.heap.size+1) 76 2 u8 k (flatS f)):=iC N.out x (fun _ e=>by cases e);have G:Hid (StAt h b s):=H.out.grown x;clear n q u C D E HV x;have l:=lT A.out Q;obtain⟨n,q,u,d⟩:=jS l;have C:=d 0;have D:=d 1;have E:=d 2;clear d l;go_wp2
   rw [z.out];exact bodyPost_ret (v:= .tuple #[u8,.agg #[.int .i64 (endingS p s),.int .i64 0,.int .i64 0]]) (by simp [results,Tryz.results50,go_sem,n,q,u]) rfl
    ⟨u8,rfl,by rw [J];exact iK (ownsRow_setCell_below (ownsRow_setCell_below (ownsRow_setCell_below F.out (by simp) _) (by simp) _) (by simp) _) (by omega),((G.out.setOther (by omega)).setOther (by omega)).setOther (by omega),iD (iD (iD (lM A.out) (by omega)) (by omega)) (by omega)⟩
end
section
open Go.RowKit
attribute [local go_sem] Go.World.cell?_alloc_some
theorem ij{p:Prop}(h:p):Hid p:=h
theorem kI{p:Prop}(h:Hid p):p:=h
section
variable {P : Program}
theorem pJ(w:World)(h y ty c:TypeId)(g b m:Nat)(a:Addr)(d x f:Nat)(cur:Array Value)(t:TypeId)(cs:List Value)
  (u:P.underlying h=some (.slice c)) (k:(P.info? c).map (·.size)=some f)
  (o:w.heap[g]?=some (.cells cur t (0,0))) (r:cs.length=Nat.min d b*f)
  (s:∀ j v,cs[j]?=some v->w.cell? (a.add j)=some v) (hfit:cs.length=cur.size) (n:∀ v∈cs,v.oneCell'=true):
  (Builtin.copy_ #[h,y] ty #[.slice (some ⟨g,0,none⟩) b m,.slice (some a) d x]).run P w=
   .ok (goInt (Nat.min d b)) (w.setRow g cs.toArray):=by
 have q:=run_loadCells_list (P:=P) w a cs s;have l:=run_storeCells_at P g 0 t cs 0 cur w o (by omega) n;have e:(cur.toList.take (0+0)++cs++cur.toList.drop (0+0+cs.length))=cs:=by
  have:cur.toList.drop (0+0+cs.length)=[]:=List.drop_of_length_le (by simp;omega);rw [this];simp
 rw [e]at l;cases hq:P.info? c with
 | none=>simp [hq]at k
 | some i=>
  have p:i.size=f:=by simpa [hq]using k
  simp [Builtin.copy_,run_underlying u,Builtin.lenOf,Builtin.firstCells,sizeOf,typeInfo,hq,p,<-r,q,l]
end
def regsF(n:Nat)(s:St):List Value:=(List.range n).flatMap fun t=>[.int .i64 (s.regs t 0),.int .i64 (s.regs t 1),.int .i64 (s.regs t 2),.int .i64 (s.regs t 3)]
theorem jg(n:Nat)(s:St):(regsF n s).length=n*4:=by
 induction n with
 | zero=>rfl
 | succ n ih=>unfold regsF at*;rw [List.range_succ,List.flatMap_append,List.length_append,ih];simp;omega
theorem sU{w:World}{b:Nat}{s:St}(k:StAt w b s){n:Nat}(hn:n<=4):∀ j v,(regsF n s)[j]?=some v->w.cell? ((⟨b,10,none⟩:Addr).add j)=some v:=by
 intro j v a;have f:(⟨b,10,none⟩:Addr).add j=⟨b,10+j,none⟩:=by unfold Addr.add;split<;>simp_all
 have i:j<n*4:=by
  have:=(List.getElem?_eq_some_iff.1 a).1;rw [jg]at this;exact this
 rw [f,k.cell];have hc:n=0\/n=1\/n=2\/n=3\/n=4:=by omega
 have e:(regsF 4 s)[j]?=some v:=by
  have d:∃ l,regsF 4 s=regsF n s++l:=by
   rcases hc with rfl | rfl | rfl | rfl | rfl
   ·exact⟨_,rfl⟩
   ·exact⟨_,rfl⟩
   ·exact⟨_,rfl⟩
   ·exact⟨_,rfl⟩
   ·exact⟨[],by simp⟩
  obtain⟨l,e⟩:=d;rw [e,List.getElem?_append_left (by rw [jg];exact i)];exact a
 have h16:j<16:=by omega
 have h:s.cells[10+j]?=(regsF 4 s)[j]?:=by
  have:s.cells.toList.drop 10=regsF 4 s++[.int .i64 (s.next 0),.int .i64 (s.next 1),.int .i64 (s.next 2),.int .i64 (s.next 3)]:=rfl;have c:(s.cells.toList.drop 10)[j]?=(regsF 4 s)[j]?:=by
   rw [this,List.getElem?_append_left (by rw [jg];omega)]
  rw [<-c,List.getElem?_drop];simp
 rw [h];exact e
theorem wT(n:Nat)(s:St):∀ v∈regsF n s,v.oneCell'=true:=by
 intro v a;unfold regsF at a;simp only [List.mem_flatMap,List.mem_cons,List.not_mem_nil,or_false]at a;obtain⟨t,_,h⟩:=a;rcases h with rfl | rfl | rfl | rfl<;>rfl
theorem oQ{w:World}{base:Nat}{e:TypeId}{b:Nat}{g n a:Nat}{xs:List Value}(h:w.ownsRow base e b (.slice (some ⟨g,0,none⟩) n a) n xs):
  ∃ cur,w.heap[g]?=some (.cells cur e (0,0))/\cur.size=a*b:=by
 rcases h.2 with ⟨e1,_⟩ | ⟨g',cap',cur,hv,hb,hh,_,_,hs,_⟩
 ·cases e1
 ·simp at hv;obtain⟨rfl,rfl⟩:=hv;exact⟨cur,hh,hs⟩
theorem jl{w:World}{g:Nat}{x0 x1 x2 x3 a b c d e:Value}{t:TypeId}(h:w.heap[g]?=some (.cells #[x0,x1,x2,x3,a,b,c,d,e] t (0,0))):
  w.cell? ⟨g,0,none⟩=some x0/\w.cell? ⟨g,1,none⟩=some x1/\w.cell? ⟨g,2,none⟩=some x2/\w.cell? ⟨g,3,none⟩=some x3/\w.cell? ⟨g,4,none⟩=some a/\w.cell? ⟨g,5,none⟩=some b/\w.cell? ⟨g,6,none⟩=some c/\w.cell? ⟨g,7,none⟩=some d/\w.cell? ⟨g,8,none⟩=some e/\(∀ o,w.frozen? ⟨g,o,none⟩=false):=by
 simp [World.cell?,World.frozen?,h]
theorem mJ(w:World)(g k:Nat)(cs:Array Value)(h:k≠g):(w.setRow g cs).heap[k]?=w.heap[k]?:=by
 simp only [World.setRow,Array.getElem?_modify];rw [if_neg (by omega)]
theorem iw{w:World}{base:Nat}{e:TypeId}{a:Nat}{v:Value}{n:Nat}{xs:List Value}(h:w.ownsRow base e a v n xs):∃ ao n c,v= .slice ao n c:=by
 rcases h.2 with ⟨e1,_⟩ | ⟨g',cap',cur,hv,_⟩
 ·exact⟨_,_,_,e1⟩
 ·exact⟨_,_,_,hv⟩
def ResAt(base:Nat)(w:World)(o:Out)(n:Nat)(rv:Value):Prop:=
 ∃ sv gv,rv= .agg #[.int .i64 o.kind,.int .i64 o.thread,.int .i64 o.at_,sv,.int .i64 (o.st.vars 0),.int .i64 (o.st.vars 1),.int .i64 (o.st.vars 2),.int .i64 (o.st.vars 3),gv]/\
  w.ownsRow base 76 2 sv o.steps.length (flatS o.steps)/\w.ownsRow base 28 4 gv n (regsF n o.st)
theorem sq:((Tryz.prog.info? 28).map fun i=>(i.zero,i.size,i.bytes))=some (some (.agg #[.int .i64 0,.int .i64 0,.int .i64 0,.int .i64 0]),4,32):=by kernel_rfl
theorem qo{B m:Nat}{w:World}{p:List (List Ins)}{v:Value}{c:List Int}(u:vProg p=true)(F:MachAt B w m p)(E:B<=w.heap.size)
  (K:IntsAt B w v c) (ah:c.length<=500):
  Calls Tryz.prog 17 #[.pointer (some ⟨m,0,none⟩),v] w fun e w'=>∃ rv,e= .returned rv/\ResAt w.heap.size w' (runS p c) p.length rv/\w.grownBy w' none:=by
 obtain⟨i0,H,al,N,am⟩:=info_parts sq;have hlen:=iW u;have C:Hid (MachAt B w m p):=F;have X:Hid (IntsAt B w v c):=K;have U:Hid (vProg p=true):=u;clear F K u;go_enter Tryz.func17,Tryz.ntmps17
 go_wp2_with fail
 generalize G:Obj.cells #[Value.int IntKind.i64 0,Value.int IntKind.i64 0,Value.int IntKind.i64 0,Value.slice none 0 0,Value.int IntKind.i64 0,Value.int IntKind.i64 0,Value.int IntKind.i64 0,Value.int IntKind.i64 0,Value.slice none 0 0] 31=R9;have V:=ij G;clear G;have Z:Hid (StAt ((w.alloc R9).alloc (.cells St.zero.cells 122)) (w.heap.size+1) St.zero):=by
  unfold Hid StAt;have:=heap_alloc_new (w.alloc R9) (.cells St.zero.cells 122);simpa using this
 have HB:Hid (w.grownBy ((w.alloc R9).alloc (.cells St.zero.cells 122)) none):=iq (iq (ir _ _));have Y:Hid (IntsAt B ((w.alloc R9).alloc (.cells St.zero.cells 122)) v c):=by
  obtain⟨ao,ab,e,h1,h2⟩:=X.out;refine⟨ao,ab,e,h1,fun k hk=>?_⟩;obtain⟨g,o,e1,e2,e3⟩:=h2 k hk;exact⟨g,o,e1,e2,by rw [HB.out.cell_far _ (by simp;omega) (by simp)];exact e3⟩
 have y:=ij (xY U.out (C.out.grown' E HB.out) (by omega:B<=w.heap.size+1) Z.out (Inv.zero p) Y.out ah);refine(kI y).mono ?_;rintro e a ⟨sv,rfl,l,J,d⟩;have R:Hid (a.ownsRow (w.heap.size+2) 76 2 sv (runS p c).steps.length (flatS (runS p c).steps)):=by
  have e:((w.alloc R9).alloc (.cells St.zero.cells 122)).heap.size=w.heap.size+2:=by simp
  rw [e]at l;exact l
 have W:Hid (StAt a (w.heap.size+1) (runS p c).st):=J;have P:Hid (((w.alloc R9).alloc (.cells St.zero.cells 122)).grownBy a (some (w.heap.size+1))):=d;have hsz:w.heap.size+2<=a.heap.size:=by have:=d.size;simpa using this
 have z:Hid (w.grownBy a none):=by
  refine⟨d.os,d.tape,d.output,by omega,fun k hk _=>?_⟩;rw [d.block k (by simp;omega) (by simp;omega)];exact HB.out.block k hk (by simp)
 obtain⟨aA,aC,aB,rfl⟩:=iw l;have Q:Hid (MachAt B a m p):=C.out.grown' E z.out;clear l J d y;generalize q:runS p c=o at*;have I:follow p c 0 St.zero []=o:=q;rw [I];clear I;have T:=ij q;clear q;obtain⟨mg,mcap,hm1,hm2,aj,ak⟩:=Q.out;clear ak;have hn4:(p.length:Int)<=4:=by omega
 have D:Hid (StAt (a.alloc (.cells #[.int .i64 o.kind,.int .i64 o.thread,.int .i64 o.at_] 26)) (w.heap.size+1) o.st):=W.out.grown (iq (ir _ _));go_wp2_with (at_make;refine wpList_make_full _ rfl _ _ _ rfl (w.heap.size+2) 28 i0 _ 4 Tryz.underlying29 H al N .i64 .i64 _ _ p.length rfl rfl rfl rfl (by rw [am];omega) (by unfold maxLen;omega) (by simp;omega) ?_;intro n t s;simp only [World.size_alloc]at t;obtain⟨cur,r,ai⟩:=oQ t)
 rw [pJ n 29 29 3 28 (a.heap.size+1) p.length p.length ⟨w.heap.size+1,10,none⟩ 4 4 4 cur 28 (regsF p.length o.st) Tryz.underlying29 (by rw [H];simp [N]) r (by rw [jg];show p.length*4=min 4 p.length*4;omega) (sU (D.out.grown s) (by omega)) (by rw [jg,ai]) (wT _ _)];have j:Hid ((a.alloc (.cells #[.int .i64 o.kind,.int .i64 o.thread,.int .i64 o.at_] 26)).grownBy n none):=s;have O:Hid (n.heap[a.heap.size+1]?=some (.cells cur 28 (0,0))):=r;clear s t r;generalize M:n.setRow (a.heap.size+1) (regsF p.length o.st).toArray=w3;have f:=ij M;clear M;have h:∀ k,k<a.heap.size+1->w3.heap[k]?=(a.alloc (.cells #[.int .i64 o.kind,.int .i64 o.thread,.int .i64 o.at_] 26)).heap[k]?:=fun k hk=>by
  rw [<-f.out,mJ _ _ _ _ (by omega),j.out.block k (by simp;omega) (by simp)]
 have HB3:=ij h;have L:w3.heap[a.heap.size]?=some (.cells #[.int .i64 o.kind,.int .i64 o.thread,.int .i64 o.at_] 26 (0,0)):=by rw [h _ (by omega)];exact heap_alloc_new a _
 have i:StAt w3 (w.heap.size+1) o.st:=by
  unfold StAt;rw [h _ (by omega)];exact D.out
 have x:w3.heap[w.heap.size]?=some R9:=by
  rw [h _ (by omega),Below.heap_alloc _ _ _ (by omega),P.out.block _ (by simp;omega) (by simp)];rw [Below.heap_alloc _ _ _ (by simp)];exact heap_alloc_new w R9
 obtain⟨q0,q1,q2,_⟩:=jS L;have s0:=i.var (v:=0) (by omega);have s1:=i.var (v:=1) (by omega);have s2:=i.var (v:=2) (by omega);have s3:=i.var (v:=3) (by omega);have HST:=ij i;rw [<-V.out]at x;obtain⟨r0,r1,r2,r3,r4,r5,r6,r7,r8,b⟩:=jl x;have f0:=b 0;have f1:=b 1;have f2:=b 2;have f3:=b 3;have f4:=b 4;have f5:=b 5;have f6:=b 6;have f7:=b 7;have f8:=b 8;have A:Hid (a.grownBy w3 none):=by
  refine⟨?_,?_,?_,?_,fun k hk _=>by rw [h k (by omega),Below.heap_alloc _ _ _ hk]⟩
  ·rw [<-f.out];exact j.out.os
  ·rw [<-f.out];exact j.out.tape
  ·rw [<-f.out];exact j.out.output
  ·rw [<-f.out];have:=j.out.size;simp at this ⊢;omega
 have S:Hid (w3.ownsRow (w.heap.size+2) 28 4 (.slice (some ⟨a.heap.size+1,0,none⟩) p.length p.length) p.length (regsF p.length o.st)):=by
  refine⟨jg _ _,Or.inr ⟨a.heap.size+1,p.length,(regsF p.length o.st).toArray,rfl,by omega,?_,Nat.le_refl _,by unfold maxLen;omega,by simp [jg],?_⟩⟩
  ·rw [<-f.out];exact setRow_heap _ _ _ _ _ _ O.out
  ·rw [List.take_of_length_le (by simp [jg])]
 clear b x L i h aj;go_wp2
 rw [T.out];refine bodyPost_ret (v:= .agg #[.int .i64 o.kind,.int .i64 o.thread,.int .i64 o.at_,.slice aA aC aB,.int .i64 (o.st.vars 0),.int .i64 (o.st.vars 1),.int .i64 (o.st.vars 2),.int .i64 (o.st.vars 3),.slice (some ⟨a.heap.size+1,0,none⟩) p.length p.length]) ?_ rfl ⟨_,rfl,⟨_,_,rfl,?_,?_⟩,?_⟩
 ·simp [results,Tryz.results17,go_sem,r0,r1,r2,r3,r4,r5,r6,r7,r8]
 ·refine iK (base:=w.heap.size+2) ?_ (by omega);iterate 9 refine ownsRow_setCell_below ?_ (by simp) _
  exact iC R.out A.out (fun _ e=>by cases e)
 ·refine iK (base:=w.heap.size+2) ?_ (by omega);iterate 9 refine ownsRow_setCell_below ?_ (by simp) _
  exact S.out
 ·iterate 9 refine iD ?_ (by omega)
  exact il z.out A.out
theorem tO(k x len:Int)(h0:0<=len)(h16:len<=16)(w:World):Calls Tryz.prog 157 #[.int .i64 k,.int .i64 x,.int .i64 len] w fun e w'=>e= .returned (.bool (fitsB k x len))/\w'=w:=by
 by_cases a:k=1
 ·subst a;go_enter Tryz.func157,Tryz.ntmps157
  go_wp2_with (go_at_call 80;refine(mA _ _ _).mono ?_;rintro e w' ⟨rfl,rfl⟩)
  go_ret;exact⟨rfl,rfl⟩
 by_cases b:k=2
 ·subst b;go_enter Tryz.func157,Tryz.ntmps157
  go_wp2_with (go_at_call 80;refine(mA _ _ _).mono ?_;rintro e w' ⟨rfl,rfl⟩)
  go_ret;exact⟨rfl,rfl⟩
 by_cases c:k=3
 ·subst c;go_enter Tryz.func157,Tryz.ntmps157
  go_wp2_with (go_at_call 80;refine(mA _ _ _).mono ?_;rintro e w' ⟨rfl,rfl⟩)
  go_ret;exact⟨rfl,rfl⟩
 by_cases d:k=4
 ·subst d;go_enter Tryz.func157,Tryz.ntmps157
  go_wp2_with (go_at_call 80;refine(mA _ _ _).mono ?_;rintro e w' ⟨rfl,rfl⟩)
  go_ret;exact⟨rfl,rfl⟩
 by_cases f:k=5
 ·subst f;go_enter Tryz.func157,Tryz.ntmps157
  go_wp2_with fail
  go_ret;exact⟨rfl,rfl⟩
 have HB:Hid (fitsB k x len=(x==0)):=by unfold Hid;simp [fitsB,a,b,c,d,f]
 have f1:(k==1)=false:=by simpa using a
 have f2:(k==2)=false:=by simpa using b
 have f3:(k==3)=false:=by simpa using c
 have f4:(k==4)=false:=by simpa using d
 have f5:(k==5)=false:=by simpa using f
 go_enter Tryz.func157,Tryz.ntmps157
 go_wp2_with fail
 go_ret;exact⟨by rw [HB.out];rfl,rfl⟩
def ShpAt(w:World):Prop:=∀ o j,o<12->j<3->w.cell? ⟨0,o*3+j,none⟩=some (.int .i64 (shp o j))
theorem uF(i:Ins)(len:Int)(f:0<=len)(h:len<=16)(w:World)(l:ShpAt w):
  Calls Tryz.prog 123 #[.agg #[.int .i64 i.op,.int .i64 i.a,.int .i64 i.b,.int .i64 i.n],.int .i64 len] w fun e w'=>e= .returned (.bool (vIns i len))/\w.grownBy w' none:=by
 have d:Hid (ShpAt w):=l;clear l;by_cases j:1<=i.op
 ·by_cases k:i.op<=11
  ·have eo:((i.op.toNat:Nat):Int)=i.op:=by omega
   have c0:=d.out i.op.toNat 0 (by omega) (by omega);have c1:=d.out i.op.toNat 1 (by omega) (by omega);have c2:=d.out i.op.toNat 2 (by omega) (by omega);simp only [Nat.add_zero]at c0;have c:Hid (vIns i len=(fitsB (shp i.op.toNat 0) i.a len && (fitsB (shp i.op.toNat 1) i.b len && fitsB (shp i.op.toNat 2) i.n len))):=by unfold Hid;simp [vIns,j,k]
   generalize shp i.op.toNat 0=k0 at*;generalize shp i.op.toNat 1=k1 at*;generalize shp i.op.toNat 2=k2 at*;go_enter Tryz.func123,Tryz.ntmps123
   go_wp2_with fail
   refine(tO _ _ _ f h _).mono ?_;rintro e w' ⟨rfl,rfl⟩;cases hf0:fitsB k0 i.a len
   ·go_wp2_with fail
    go_ret;exact⟨by rw [c.out,hf0];rfl,iq (iq (ir _ _))⟩
   ·go_wp2_with fail
    refine(tO _ _ _ f h _).mono ?_;rintro e w' ⟨rfl,rfl⟩;cases hf1:fitsB k1 i.b len
    ·go_wp2_with fail
     go_ret;exact⟨by rw [c.out,hf0,hf1];rfl,iq (iq (ir _ _))⟩
    ·go_wp2_with fail
     refine(tO _ _ _ f h _).mono ?_;rintro e w' ⟨rfl,rfl⟩;go_wp2_with fail
     go_ret;exact⟨by rw [c.out,hf0,hf1];simp,iq (iq (ir _ _))⟩
  ·have c:Hid (vIns i len=false):=by unfold Hid;simp [vIns,k]
   have m:11<i.op:=by omega
   go_enter Tryz.func123,Tryz.ntmps123
   go_wp2_with fail
   go_ret;exact⟨by rw [c.out];rfl,iq (ir _ _)⟩
 ·have c:Hid (vIns i len=false):=by unfold Hid;simp [vIns,j]
  have m:i.op<1:=by omega
  go_enter Tryz.func123,Tryz.ntmps123
  go_wp2_with fail
  go_ret;exact⟨by rw [c.out];rfl,iq (ir _ _)⟩
def CodeAt(w:World)(v:Value)(c:List Ins):Prop:=
 ∃ ao cap,v= .slice ao c.length cap/\∀ k (hk:k<c.length),∃ g o,ao=some ⟨g,o,none⟩/\w.cell? ⟨g,o+k*4,none⟩=some (.int .i64 c[k].op)/\
  w.cell? ⟨g,o+k*4+1,none⟩=some (.int .i64 c[k].a)/\w.cell? ⟨g,o+k*4+2,none⟩=some (.int .i64 c[k].b)/\w.cell? ⟨g,o+k*4+3,none⟩=some (.int .i64 c[k].n)
def ProgAt(w:World)(v:Value)(p:List (List Ins)):Prop:=
 ∃ ao cap,v= .agg #[.slice ao p.length cap]/\∀ t (ht:t<p.length),∃ g o,ao=some ⟨g,o,none⟩/\∃ rv,w.cell? ⟨g,o+t,none⟩=some rv/\CodeAt w rv p[t]
def Pres(w w':World):Prop:=∀ a v,w.cell? a=some v->w'.cell? a=some v
theorem Pres.refl(w:World):Pres w w:=fun _ _ h=>h
theorem Pres.trans{a b c:World}(h:Pres a b)(h':Pres b c):Pres a c:=fun x v hx=>h' x v (h x v hx)
theorem ip{w w':World}(h:w.grownBy w' none):Pres w w':=fun a v ha=>by
 rw [h.cell_far a (World.block_lt_of_cell? w a ha) (by simp)];exact ha
theorem CodeAt.pres{w w':World}{v:Value}{c:List Ins}(h:CodeAt w v c)(a:Pres w w'):CodeAt w' v c:=by
 obtain⟨b,d,e,h⟩:=h;refine⟨b,d,e,fun k hk=>?_⟩;obtain⟨g,o,f,i,j,l,m⟩:=h k hk;exact⟨g,o,f,a _ _ i,a _ _ j,a _ _ l,a _ _ m⟩
theorem ProgAt.pres{w w':World}{v:Value}{p:List (List Ins)}(h:ProgAt w v p)(a:Pres w w'):ProgAt w' v p:=by
 obtain⟨b,c,e,h⟩:=h;refine⟨b,c,e,fun k hk=>?_⟩;obtain⟨g,o,d,rv,f,i⟩:=h k hk;exact⟨g,o,d,rv,a _ _ f,i.pres a⟩
theorem ShpAt.pres{w w':World}(h:ShpAt w)(hp:Pres w w'):ShpAt w':=fun o j h1 h2=>hp _ _ (h o j h1 h2)
theorem ju{α:Type}(l:List α)(f:α->Bool)(k:Nat)(h:k<l.length):(l.take (k+1)).all f=((l.take k).all f && f l[k]):=by
 rw [List.take_succ_eq_append_getElem h,List.all_append];simp
theorem pM(c:List Ins)(v:Value)(w:World)(q:ShpAt w)(hc:CodeAt w v c):
  Calls Tryz.prog 84 #[v] w fun e w'=>e= .returned (.bool (vCode c))/\w.grownBy w' none:=by
 obtain⟨ao,cap,rfl,hc⟩:=hc;have x:Hid (ShpAt w):=q;have u:=ij hc;clear q hc;by_cases p:c.length<=16
 ·have z:(c.length:Int)<=16:=by omega
  have d:Hid (vCode c=c.all fun i=>vIns i c.length):=by unfold Hid;simp [vCode,p]
  go_enter Tryz.func84,Tryz.ntmps84
  go_wp2
  go_loopw [10] (fun i w'=>∃ k:Nat,k<=c.length/\i= .int .i64 k/\Hid (w.grownBy w' none)/\Hid ((c.take k).all (fun i=>vIns i c.length)=true)) (fun i _=>c.length - (intOf i).toNat)
  case atStart=>exact⟨0,Nat.zero_le _,rfl,ir _ _,rfl⟩
  case round=>
   obtain⟨k,hk,rfl,b,j⟩:=hrel;by_cases s:k<c.length
   ·obtain⟨g,o,rfl,c0,c1,m,n⟩:=u.out k s;have a:=ip b.out;have d0:=a _ _ c0;have d1:=a _ _ c1;have d2:=a _ _ m;have d3:=a _ _ n;have f:=ij (ju c (fun i=>vIns i c.length) k s);clear c0 c1 m n a;have hk0:(0:Int)<=(k:Int):=by omega
    have hk1:(k:Int)<c.length:=by omega
    have y:Hid (ShpAt wr):=x.out.pres (ip b.out);generalize c[k]=i at*;go_wp2_with fail
    refine(uF i c.length (by omega) (by omega) _ (y.out.pres (ip (iq (ir _ _))))).mono ?_;rintro e A ⟨rfl,r⟩;have l:Hid (w.grownBy A none):=il (iq b.out) r;clear r;cases hv:vIns i c.length
    ·have h:Hid (vCode c=false):=by
      unfold Hid;rw [d.out];have:(c.take (k+1)).all (fun i=>vIns i c.length)=false:=by rw [f.out,hv];simp
      rw [<-List.take_append_drop (k+1) c,List.all_append,List.take_append_drop,this];rfl
     go_wp2_with fail
     go_ret;exact⟨by rw [h.out];rfl,l⟩
    ·have t:Hid ((c.take (k+1)).all (fun i=>vIns i c.length)=true):=by unfold Hid;rw [f.out,hv,j.out];rfl
     clear f hv;go_wp2
     go_roundw
     case rel=>exact⟨k+1,by omega,by go_num,l,t⟩
     case measure=>simp [intOf];omega
   ·have h:Hid (vCode c=true):=by
     unfold Hid;rw [d.out];have:=j.out;rw [List.take_of_length_le (by omega)]at this;exact this
    go_wp2
    go_ret;exact⟨by rw [h.out];rfl,b⟩
 ·have d:Hid (vCode c=false):=by unfold Hid;simp [vCode,p]
  have z:(16:Int)<c.length:=by omega
  go_enter Tryz.func84,Tryz.ntmps84
  go_wp2
  go_ret;exact⟨by rw [d.out];rfl,ir _ _⟩
def Made(w:World)(t:Nat)(i:Ins)(e:Ending)(w':World):Prop:=∃ v,e= .returned v/\(∀ w'':World,(∀ k,w.heap.size<=k->k<w'.heap.size->w''.heap[k]?=w'.heap[k]?)->ActIs w'.heap.size w'' v t i)/\w.grownBy w' none
theorem BW(t:Nat)(i:Ins)(h:i.op=1)(w:World):Calls Tryz.prog 110 #[.int .i64 t,.int .i64 i.a,.int .i64 i.n] w (Made w t i):=by
 have hmf:∀ (fn:Fn) (first cap:Array Value) (w:World),(Instr.makeFunc fn first cap).run Tryz.prog w= .ok (.func fn first cap) w:=fun _ _ _ _=>rfl
 have H:Hid (i.op=1):=h;clear h;go_enter Tryz.func110,Tryz.ntmps110
 go_wp2
 go_ret;have h:=H.out;refine⟨_,rfl,fun w2 hw2=>⟨w.heap.size+2,w.heap.size,w.heap.size+1,0,by(simp<;>omega),by(simp<;>omega),by(simp<;>omega),by simp,Or.inl ⟨h,rfl,?_,?_,?_⟩⟩,iq (iq (iq (ir _ _)))⟩
 all_goals (rw [World.cell?_of_block (hw2 _ (by(simp<;>omega)) (by(simp<;>omega)))];simp [go_sem])
theorem Az(t:Nat)(i:Ins)(h:i.op=2)(w:World):Calls Tryz.prog 111 #[.int .i64 t,.int .i64 i.a,.int .i64 i.b] w (Made w t i):=by
 have hmf:∀ (fn:Fn) (first cap:Array Value) (w:World),(Instr.makeFunc fn first cap).run Tryz.prog w= .ok (.func fn first cap) w:=fun _ _ _ _=>rfl
 have H:Hid (i.op=2):=h;clear h;go_enter Tryz.func111,Tryz.ntmps111
 go_wp2
 go_ret;have h:=H.out;refine⟨_,rfl,fun w2 hw2=>⟨w.heap.size+2,w.heap.size,w.heap.size+1,0,by(simp<;>omega),by(simp<;>omega),by(simp<;>omega),by simp,Or.inr (Or.inl ⟨h,rfl,?_,?_,?_⟩)⟩,iq (iq (iq (ir _ _)))⟩
 all_goals (rw [World.cell?_of_block (hw2 _ (by(simp<;>omega)) (by(simp<;>omega)))];simp [go_sem])
theorem zo(t:Nat)(i:Ins)(h:i.op=3)(w:World):Calls Tryz.prog 112 #[.int .i64 t,.int .i64 i.a,.int .i64 i.b] w (Made w t i):=by
 have hmf:∀ (fn:Fn) (first cap:Array Value) (w:World),(Instr.makeFunc fn first cap).run Tryz.prog w= .ok (.func fn first cap) w:=fun _ _ _ _=>rfl
 have H:Hid (i.op=3):=h;clear h;go_enter Tryz.func112,Tryz.ntmps112
 go_wp2
 go_ret;have h:=H.out;refine⟨_,rfl,fun w2 hw2=>⟨w.heap.size,w.heap.size+2,w.heap.size+1,0,by(simp<;>omega),by(simp<;>omega),by(simp<;>omega),by simp,Or.inr (Or.inr (Or.inl ⟨h,rfl,?_,?_,?_⟩))⟩,iq (iq (iq (ir _ _)))⟩
 all_goals (rw [World.cell?_of_block (hw2 _ (by(simp<;>omega)) (by(simp<;>omega)))];simp [go_sem])
theorem vM(t:Nat)(i:Ins)(h:i.op=7)(w:World):Calls Tryz.prog 117 #[.int .i64 t,.int .i64 i.a,.int .i64 i.b] w (Made w t i):=by
 have hmf:∀ (fn:Fn) (first cap:Array Value) (w:World),(Instr.makeFunc fn first cap).run Tryz.prog w= .ok (.func fn first cap) w:=fun _ _ _ _=>rfl
 have H:Hid (i.op=7):=h;clear h;go_enter Tryz.func117,Tryz.ntmps117
 go_wp2
 go_ret;have h:=H.out;refine⟨_,rfl,fun w2 hw2=>⟨w.heap.size,w.heap.size+2,w.heap.size+1,0,by(simp<;>omega),by(simp<;>omega),by(simp<;>omega),by simp,Or.inr (Or.inr (Or.inr (Or.inr (Or.inl ⟨h,rfl,?_,?_,?_⟩))))⟩,iq (iq (iq (ir _ _)))⟩
 all_goals (rw [World.cell?_of_block (hw2 _ (by(simp<;>omega)) (by(simp<;>omega)))];simp [go_sem])
theorem At(t:Nat)(i:Ins)(h:i.op=8)(w:World):Calls Tryz.prog 118 #[.int .i64 t,.int .i64 i.a,.int .i64 i.n] w (Made w t i):=by
 have hmf:∀ (fn:Fn) (first cap:Array Value) (w:World),(Instr.makeFunc fn first cap).run Tryz.prog w= .ok (.func fn first cap) w:=fun _ _ _ _=>rfl
 have H:Hid (i.op=8):=h;clear h;go_enter Tryz.func118,Tryz.ntmps118
 go_wp2
 go_ret;have h:=H.out;refine⟨_,rfl,fun w2 hw2=>⟨w.heap.size,w.heap.size+1,w.heap.size+2,0,by(simp<;>omega),by(simp<;>omega),by(simp<;>omega),by simp,Or.inr (Or.inr (Or.inr (Or.inr (Or.inr (Or.inl ⟨h,rfl,?_,?_,?_⟩)))))⟩,iq (iq (iq (ir _ _)))⟩
 all_goals (rw [World.cell?_of_block (hw2 _ (by(simp<;>omega)) (by(simp<;>omega)))];simp [go_sem])
theorem Bd(t:Nat)(i:Ins)(h:i.op=9)(w:World):Calls Tryz.prog 119 #[.int .i64 t,.int .i64 i.a] w (Made w t i):=by
 have hmf:∀ (fn:Fn) (first cap:Array Value) (w:World),(Instr.makeFunc fn first cap).run Tryz.prog w= .ok (.func fn first cap) w:=fun _ _ _ _=>rfl
 have H:Hid (i.op=9):=h;clear h;go_enter Tryz.func119,Tryz.ntmps119
 go_wp2
 go_ret;have h:=H.out;refine⟨_,rfl,fun w2 hw2=>⟨w.heap.size,w.heap.size+1,0,0,by(simp<;>omega),by simp,by simp,by simp,Or.inr (Or.inr (Or.inr (Or.inr (Or.inr (Or.inr (Or.inl ⟨h,rfl,?_,?_⟩))))))⟩,iq (iq (ir _ _))⟩
 all_goals (rw [World.cell?_of_block (hw2 _ (by(simp<;>omega)) (by(simp<;>omega)))];simp [go_sem])
theorem vq(t:Nat)(i:Ins)(h:i.op=11)(w:World):Calls Tryz.prog 121 #[.int .i64 t,.int .i64 i.a] w (Made w t i):=by
 have hmf:∀ (fn:Fn) (first cap:Array Value) (w:World),(Instr.makeFunc fn first cap).run Tryz.prog w= .ok (.func fn first cap) w:=fun _ _ _ _=>rfl
 have H:Hid (i.op=11):=h;clear h;go_enter Tryz.func121,Tryz.ntmps121
 go_wp2
 go_ret;have h:=H.out;refine⟨_,rfl,fun w2 hw2=>⟨w.heap.size,w.heap.size+1,0,0,by(simp<;>omega),by simp,by simp,by simp,Or.inr (Or.inr (Or.inr (Or.inr (Or.inr (Or.inr (Or.inr (Or.inr (⟨h,rfl,?_,?_⟩))))))))⟩,iq (iq (ir _ _))⟩
 all_goals (rw [World.cell?_of_block (hw2 _ (by(simp<;>omega)) (by(simp<;>omega)))];simp [go_sem])
theorem ur(t:Nat)(i:Ins)(h:i.op=10)(w:World):Calls Tryz.prog 120 #[.int .i64 t,.int .i64 i.a] w (Made w t i):=by
 have hmf:∀ (fn:Fn) (first cap:Array Value) (w:World),(Instr.makeFunc fn first cap).run Tryz.prog w= .ok (.func fn first cap) w:=fun _ _ _ _=>rfl
 have H:Hid (i.op=10):=h;clear h;go_enter Tryz.func120,Tryz.ntmps120
 go_wp2
 go_ret;have h:=H.out;refine⟨_,rfl,fun w2 hw2=>⟨w.heap.size,w.heap.size+1,0,0,by(simp<;>omega),by simp,by simp,by simp,Or.inr (Or.inr (Or.inr (Or.inr (Or.inr (Or.inr (Or.inr (Or.inl ⟨h,rfl,?_,?_,?_⟩)))))))⟩,iq (iq (ir _ _))⟩
 all_goals (rw [World.cell?_of_block (hw2 _ (by(simp<;>omega)) (by(simp<;>omega)))];simp [go_sem])
theorem Bw(t:Nat)(i:Ins)(h:i.op=4)(w:World):Calls Tryz.prog 113 #[.int .i64 t,.int .i64 i.a,.int .i64 i.b,.func (.func 114) #[] #[]] w (Made w t i):=by
 have hmf:∀ (fn:Fn) (first cap:Array Value) (w:World),(Instr.makeFunc fn first cap).run Tryz.prog w= .ok (.func fn first cap) w:=fun _ _ _ _=>rfl
 have H:Hid (i.op=4):=h;clear h;go_enter Tryz.func113,Tryz.ntmps113
 go_wp2
 go_ret;have h:=H.out;refine⟨_,rfl,fun w2 hw2=>⟨w.heap.size+3,w.heap.size,w.heap.size+1,w.heap.size+2,by(simp<;>omega),by(simp<;>omega),by(simp<;>omega),by(simp<;>omega),Or.inr (Or.inr (Or.inr (Or.inl ⟨_,Or.inl ⟨h,rfl⟩,rfl,?_,?_,?_,?_⟩)))⟩,iq (iq (iq (iq (ir _ _))))⟩
 all_goals (rw [World.cell?_of_block (hw2 _ (by(simp<;>omega)) (by(simp<;>omega)))];simp [go_sem])
theorem B0(t:Nat)(i:Ins)(h:i.op=5)(w:World):Calls Tryz.prog 113 #[.int .i64 t,.int .i64 i.a,.int .i64 i.b,.func (.func 115) #[] #[]] w (Made w t i):=by
 have hmf:∀ (fn:Fn) (first cap:Array Value) (w:World),(Instr.makeFunc fn first cap).run Tryz.prog w= .ok (.func fn first cap) w:=fun _ _ _ _=>rfl
 have H:Hid (i.op=5):=h;clear h;go_enter Tryz.func113,Tryz.ntmps113
 go_wp2
 go_ret;have h:=H.out;refine⟨_,rfl,fun w2 hw2=>⟨w.heap.size+3,w.heap.size,w.heap.size+1,w.heap.size+2,by(simp<;>omega),by(simp<;>omega),by(simp<;>omega),by(simp<;>omega),Or.inr (Or.inr (Or.inr (Or.inl ⟨_,Or.inr (Or.inl ⟨h,rfl⟩),rfl,?_,?_,?_,?_⟩)))⟩,iq (iq (iq (iq (ir _ _))))⟩
 all_goals (rw [World.cell?_of_block (hw2 _ (by(simp<;>omega)) (by(simp<;>omega)))];simp [go_sem])
theorem BM(t:Nat)(i:Ins)(h:i.op=6)(w:World):Calls Tryz.prog 113 #[.int .i64 t,.int .i64 i.a,.int .i64 i.b,.func (.func 116) #[] #[]] w (Made w t i):=by
 have hmf:∀ (fn:Fn) (first cap:Array Value) (w:World),(Instr.makeFunc fn first cap).run Tryz.prog w= .ok (.func fn first cap) w:=fun _ _ _ _=>rfl
 have H:Hid (i.op=6):=h;clear h;go_enter Tryz.func113,Tryz.ntmps113
 go_wp2
 go_ret;have h:=H.out;refine⟨_,rfl,fun w2 hw2=>⟨w.heap.size+3,w.heap.size,w.heap.size+1,w.heap.size+2,by(simp<;>omega),by(simp<;>omega),by(simp<;>omega),by(simp<;>omega),Or.inr (Or.inr (Or.inr (Or.inl ⟨_,Or.inr (Or.inr ⟨h,rfl⟩),rfl,?_,?_,?_,?_⟩)))⟩,iq (iq (iq (iq (ir _ _))))⟩
 all_goals (rw [World.cell?_of_block (hw2 _ (by(simp<;>omega)) (by(simp<;>omega)))];simp [go_sem])
theorem Made.grow{b w w':World}{t:Nat}{i:Ins}{e:Ending}(h:Made w t i e w')(a:b.grownBy w none):Made b t i e w':=by
 obtain⟨v,c,d,f⟩:=h;exact⟨v,c,fun w2 hw2=>d w2 fun k hk hk2=>hw2 k (Nat.le_trans a.size hk) hk2,il a f⟩
theorem re(t:Nat)(i:Ins)(h:i.op=1)(w:World):Calls Tryz.prog 79 #[.int .i64 t,.agg #[.int .i64 1,.int .i64 i.a,.int .i64 i.b,.int .i64 i.n]] w (Made w t i):=by
 have H:Hid (i.op=1):=h;clear h;go_enter Tryz.func79,Tryz.ntmps79
 go_wp2_with fail
 go_quiet (fail)
 go_wp2_with fail
 refine(BW t i H.out _).mono ?_;rintro e w1 ⟨v,rfl,c,d⟩;have f:=ij c;have j:=ij d;clear c d;go_wp2_with fail
 go_ret;exact Made.grow (w:=_) ⟨v,rfl,f.out,j.out⟩ (iO _ (iq (ir _ _)))
theorem rh(t:Nat)(i:Ins)(h:i.op=2)(w:World):Calls Tryz.prog 79 #[.int .i64 t,.agg #[.int .i64 2,.int .i64 i.a,.int .i64 i.b,.int .i64 i.n]] w (Made w t i):=by
 have H:Hid (i.op=2):=h;clear h;go_enter Tryz.func79,Tryz.ntmps79
 go_wp2_with fail
 go_quiet (fail)
 go_wp2_with fail
 refine(Az t i H.out _).mono ?_;rintro e w1 ⟨v,rfl,c,d⟩;have f:=ij c;have j:=ij d;clear c d;go_wp2_with fail
 go_ret;exact Made.grow (w:=_) ⟨v,rfl,f.out,j.out⟩ (iO _ (iq (ir _ _)))
theorem rl(t:Nat)(i:Ins)(h:i.op=3)(w:World):Calls Tryz.prog 79 #[.int .i64 t,.agg #[.int .i64 3,.int .i64 i.a,.int .i64 i.b,.int .i64 i.n]] w (Made w t i):=by
 have H:Hid (i.op=3):=h;clear h;go_enter Tryz.func79,Tryz.ntmps79
 go_wp2_with fail
 go_quiet (fail)
 go_wp2_with fail
 refine(zo t i H.out _).mono ?_;rintro e w1 ⟨v,rfl,c,d⟩;have f:=ij c;have j:=ij d;clear c d;go_wp2_with fail
 go_ret;exact Made.grow (w:=_) ⟨v,rfl,f.out,j.out⟩ (iO _ (iq (ir _ _)))
theorem rm(t:Nat)(i:Ins)(h:i.op=4)(w:World):Calls Tryz.prog 79 #[.int .i64 t,.agg #[.int .i64 4,.int .i64 i.a,.int .i64 i.b,.int .i64 i.n]] w (Made w t i):=by
 have H:Hid (i.op=4):=h;clear h;go_enter Tryz.func79,Tryz.ntmps79
 go_wp2_with fail
 go_quiet (fail)
 go_wp2_with fail
 refine(Bw t i H.out _).mono ?_;rintro e w1 ⟨v,rfl,c,d⟩;have f:=ij c;have j:=ij d;clear c d;go_wp2_with fail
 go_ret;exact Made.grow (w:=_) ⟨v,rfl,f.out,j.out⟩ (iO _ (iq (ir _ _)))
theorem rn(t:Nat)(i:Ins)(h:i.op=5)(w:World):Calls Tryz.prog 79 #[.int .i64 t,.agg #[.int .i64 5,.int .i64 i.a,.int .i64 i.b,.int .i64 i.n]] w (Made w t i):=by
 have H:Hid (i.op=5):=h;clear h;go_enter Tryz.func79,Tryz.ntmps79
 go_wp2_with fail
 go_quiet (fail)
 go_wp2_with fail
 refine(B0 t i H.out _).mono ?_;rintro e w1 ⟨v,rfl,c,d⟩;have f:=ij c;have j:=ij d;clear c d;go_wp2_with fail
 go_ret;exact Made.grow (w:=_) ⟨v,rfl,f.out,j.out⟩ (iO _ (iq (ir _ _)))
theorem ro(t:Nat)(i:Ins)(h:i.op=6)(w:World):Calls Tryz.prog 79 #[.int .i64 t,.agg #[.int .i64 6,.int .i64 i.a,.int .i64 i.b,.int .i64 i.n]] w (Made w t i):=by
 have H:Hid (i.op=6):=h;clear h;go_enter Tryz.func79,Tryz.ntmps79
 go_wp2_with fail
 go_quiet (fail)
 go_wp2_with fail
 refine(BM t i H.out _).mono ?_;rintro e w1 ⟨v,rfl,c,d⟩;have f:=ij c;have j:=ij d;clear c d;go_wp2_with fail
 go_ret;exact Made.grow (w:=_) ⟨v,rfl,f.out,j.out⟩ (iO _ (iq (ir _ _)))
theorem rp(t:Nat)(i:Ins)(h:i.op=7)(w:World):Calls Tryz.prog 79 #[.int .i64 t,.agg #[.int .i64 7,.int .i64 i.a,.int .i64 i.b,.int .i64 i.n]] w (Made w t i):=by
 have H:Hid (i.op=7):=h;clear h;go_enter Tryz.func79,Tryz.ntmps79
 go_wp2_with fail
 go_quiet (fail)
 go_wp2_with fail
 refine(vM t i H.out _).mono ?_;rintro e w1 ⟨v,rfl,c,d⟩;have f:=ij c;have j:=ij d;clear c d;go_wp2_with fail
 go_ret;exact Made.grow (w:=_) ⟨v,rfl,f.out,j.out⟩ (iO _ (iq (ir _ _)))
theorem rq(t:Nat)(i:Ins)(h:i.op=8)(w:World):Calls Tryz.prog 79 #[.int .i64 t,.agg #[.int .i64 8,.int .i64 i.a,.int .i64 i.b,.int .i64 i.n]] w (Made w t i):=by
 have H:Hid (i.op=8):=h;clear h;go_enter Tryz.func79,Tryz.ntmps79
 go_wp2_with fail
 go_quiet (fail)
 go_wp2_with fail
 refine(At t i H.out _).mono ?_;rintro e w1 ⟨v,rfl,c,d⟩;have f:=ij c;have j:=ij d;clear c d;go_wp2_with fail
 go_ret;exact Made.grow (w:=_) ⟨v,rfl,f.out,j.out⟩ (iO _ (iq (ir _ _)))
theorem rr(t:Nat)(i:Ins)(h:i.op=9)(w:World):Calls Tryz.prog 79 #[.int .i64 t,.agg #[.int .i64 9,.int .i64 i.a,.int .i64 i.b,.int .i64 i.n]] w (Made w t i):=by
 have H:Hid (i.op=9):=h;clear h;go_enter Tryz.func79,Tryz.ntmps79
 go_wp2_with fail
 go_quiet (fail)
 go_wp2_with fail
 refine(Bd t i H.out _).mono ?_;rintro e w1 ⟨v,rfl,c,d⟩;have f:=ij c;have j:=ij d;clear c d;go_wp2_with fail
 go_ret;exact Made.grow (w:=_) ⟨v,rfl,f.out,j.out⟩ (iO _ (iq (ir _ _)))
theorem pD(t:Nat)(i:Ins)(h:i.op=10)(w:World):Calls Tryz.prog 79 #[.int .i64 t,.agg #[.int .i64 10,.int .i64 i.a,.int .i64 i.b,.int .i64 i.n]] w (Made w t i):=by
 have H:Hid (i.op=10):=h;clear h;go_enter Tryz.func79,Tryz.ntmps79
 go_wp2_with fail
 go_quiet (fail)
 go_wp2_with fail
 refine(ur t i H.out _).mono ?_;rintro e w1 ⟨v,rfl,c,d⟩;have f:=ij c;have j:=ij d;clear c d;go_wp2_with fail
 go_ret;exact Made.grow (w:=_) ⟨v,rfl,f.out,j.out⟩ (iO _ (iq (ir _ _)))
theorem pE(t:Nat)(i:Ins)(h:i.op=11)(w:World):Calls Tryz.prog 79 #[.int .i64 t,.agg #[.int .i64 11,.int .i64 i.a,.int .i64 i.b,.int .i64 i.n]] w (Made w t i):=by
 have H:Hid (i.op=11):=h;clear h;go_enter Tryz.func79,Tryz.ntmps79
 go_wp2_with fail
 go_quiet (fail)
 go_wp2_with fail
 refine(vq t i H.out _).mono ?_;rintro e w1 ⟨v,rfl,c,d⟩;have f:=ij c;have j:=ij d;clear c d;go_wp2_with fail
 go_ret;exact Made.grow (w:=_) ⟨v,rfl,f.out,j.out⟩ (iO _ (iq (ir _ _)))
theorem rs(t:Nat)(i:Ins)(h1:1<=i.op)(h2:i.op<=11)(w:World):Calls Tryz.prog 79 #[.int .i64 t,.agg #[.int .i64 i.op,.int .i64 i.a,.int .i64 i.b,.int .i64 i.n]] w (Made w t i):=by
 have hc:i.op=1\/i.op=2\/i.op=3\/i.op=4\/i.op=5\/i.op=6\/i.op=7\/i.op=8\/i.op=9\/i.op=10\/i.op=11:=by omega
 rcases hc with e | e | e | e | e | e | e | e | e | e | e
 ·rw [e];exact re t i e w
 ·rw [e];exact rh t i e w
 ·rw [e];exact rl t i e w
 ·rw [e];exact rm t i e w
 ·rw [e];exact rn t i e w
 ·rw [e];exact ro t i e w
 ·rw [e];exact rp t i e w
 ·rw [e];exact rq t i e w
 ·rw [e];exact rr t i e w
 ·rw [e];exact pD t i e w
 ·rw [e];exact pE t i e w
theorem tS{w:World}{g:Nat}{x0 x1 x2 x3:Value}{t:TypeId}(h:w.heap[g]?=some (.cells #[x0,x1,x2,x3] t (0,0))):
  w.cell? ⟨g,0,none⟩=some x0/\w.cell? ⟨g,1,none⟩=some x1/\w.cell? ⟨g,2,none⟩=some x2/\w.cell? ⟨g,3,none⟩=some x3/\(∀ o,w.frozen? ⟨g,o,none⟩=false):=by
 simp [World.cell?,World.frozen?,h]
def MoveMade(w:World)(t:Nat)(i:Ins)(e:Ending)(w':World):Prop:=
 ∃ kf caps,e= .returned (.agg #[.func (.func kf) #[] caps,.bool (i.op==9),.int .i64 (if i.op=9 then i.a else 0)])/\(∀ w2:World,(∀ k,w.heap.size<=k->k<w'.heap.size->w2.heap[k]?=w'.heap[k]?)->ActIs w'.heap.size w2 (.func (.func kf) #[] caps) t i)/\w.grownBy w' none
theorem ActIs.form{B:Nat}{w:World}{v:Value}{t:Nat}{i:Ins}(h:ActIs B w v t i):∃ kf caps,v= .func (.func kf) #[] caps:=by
 obtain⟨x,y,z,u,_,_,_,_,h⟩:=h;rcases h with ⟨_,e,_⟩ | ⟨_,e,_⟩ | ⟨_,e,_⟩ | ⟨_,_,e,_⟩ | ⟨_,e,_⟩ | ⟨_,e,_⟩ | ⟨_,e,_⟩ | ⟨_,e,_⟩ | ⟨_,e,_⟩<;>exact⟨_,_,e⟩
theorem uh(t:Nat)(i:Ins)(F:1<=i.op)(G:i.op<=11)(w:World):Calls Tryz.prog 49 #[.int .i64 t,.agg #[.int .i64 i.op,.int .i64 i.a,.int .i64 i.b,.int .i64 i.n]] w (MoveMade w t i):=by
 go_enter Tryz.func49,Tryz.ntmps49
 go_wp2_with fail
 refine(rs t i F G _).mono ?_;rintro e d ⟨v,rfl,m,f⟩;obtain⟨j,h,rfl⟩:=(m d fun _ _ _=>rfl).form;have r:=ij m;have C:=ij f;have hsz:w.heap.size+2<=d.heap.size:=by have:=f.size;simpa using this
 have A:d.heap[w.heap.size]?=some (.cells #[.int .i64 i.op,.int .i64 i.a,.int .i64 i.b,.int .i64 i.n] 65 (0,0)):=by
  rw [f.block _ (by simp;omega) (by simp),Below.heap_alloc _ _ _ (by simp)];exact heap_alloc_new w _
 have B:d.heap[w.heap.size+1]?=some (.cells #[.nilFunc,.bool false,.int .i64 0] 115 (0,0)):=by
  rw [f.block _ (by simp) (by simp)];have:=heap_alloc_new (w.alloc (.cells #[.int .i64 i.op,.int .i64 i.a,.int .i64 i.b,.int .i64 i.n] 65)) (.cells #[.nilFunc,.bool false,.int .i64 0] 115);simpa using this
 clear m f;obtain⟨c0,c1,D,E,_⟩:=tS A;obtain⟨u,x,y,z⟩:=jS B;have dfa:∀ (o:Obj) (k:Nat),(d.alloc o).frozen? ⟨w.heap.size+1,k,none⟩=false:=fun o k=>by
  rw [World.frozen?_alloc_old _ _ _ (by simp;omega)];exact z k
 clear z A B D E;have s:Hid (w.grownBy d none):=il (iq (iq (ir _ _))) C.out;by_cases c:i.op=9
 ·have l:=ij c;have p:(i.op==9)=true:=by simpa using c
  clear c;go_wp2_with fail
  refine bodyPost_ret (v:= .agg #[.func (.func j) #[] h,.bool true,.int .i64 i.a]) ?_ rfl ⟨j,h,?_,?_,?_⟩
  ·simp [results,Tryz.results49,go_sem,u,x,y]
  ·rw [p,if_pos l.out]
  ·intro I q;refine(r.out _ fun k hk hk2=>?_).mono (by simp);rw [q k (by simp at hk;omega) (by simp;omega)];have H:w.heap.size+2<=k:=by simpa using hk
   rw [Below.heap_setCell _ _ _ _ (by simp;omega),Below.heap_setCell _ _ _ _ (by simp;omega),Below.heap_setCell _ _ _ _ (by simp;omega),Below.heap_alloc _ _ _ hk2]
  ·iterate 3 refine iD ?_ (by omega)
   exact iq s.out
 ·have l:=ij c;have p:(i.op==9)=false:=by simpa using c
  clear c;go_wp2_with fail
  refine bodyPost_ret (v:= .agg #[.func (.func j) #[] h,.bool false,.int .i64 0]) ?_ rfl ⟨j,h,?_,?_,?_⟩
  ·simp [results,Tryz.results49,go_sem,u,x,y]
  ·rw [p,if_neg l.out]
  ·intro I q;refine(r.out _ fun k hk hk2=>?_).mono (by simp);rw [q k (by simp at hk;omega) (by simp;omega)];have H:w.heap.size+2<=k:=by simpa using hk
   rw [Below.heap_setCell _ _ _ _ (by simp;omega),Below.heap_setCell _ _ _ _ (by simp;omega),Below.heap_setCell _ _ _ _ (by simp;omega),Below.heap_alloc _ _ _ hk2]
  ·iterate 3 refine iD ?_ (by omega)
   exact iq s.out
def moveV(kf:Nat)(caps:Array Value)(i:Ins):List Value:=[.func (.func kf) #[] caps,.bool (i.op==9),.int .i64 (if i.op=9 then i.a else 0)]
def ActSt(a b:Nat)(w:World)(v:Value)(t:Nat)(i:Ins):Prop:=∀ w':World,(∀ k,a<=k->k<b->w'.heap[k]?=w.heap[k]?)->ActIs b w' v t i
def MovesIn(L B:Nat)(w:World)(own:Option Nat)(xs:List Value)(t:Nat)(c:List Ins):Prop:=
 ∀ k (hk:k<c.length),∃ kf caps a b,xs[k*3]?=some (.func (.func kf) #[] caps)/\xs[k*3+1]?=some (.bool (c[k].op==9))/\xs[k*3+2]?=some (.int .i64 (if c[k].op=9 then c[k].a else 0))/\
  L<=a/\b<=B/\(∀ h,own=some h->h<a\/b<=h)/\ActSt a b w (.func (.func kf) #[] caps) t c[k]
theorem MovesIn.step{L B:Nat}{w w':World}{own r:Option Nat}{xs:List Value}{t:Nat}{c:List Ins}(h:MovesIn L B w own xs t c)(hB:B<=w.heap.size)(p:w.grownBy w' r)(u:∀ q,r=some q->own=some q\/q<L\/B<=q):MovesIn L B w' own xs t c:=by
 intro k s;obtain⟨v,f,a,b,i,j,l,m,n,d,o⟩:=h k s;refine⟨v,f,a,b,i,j,l,m,n,d,fun w2 hw2=>o w2 fun q hq hq2=>?_⟩;rw [hw2 q hq hq2,p.block q (by omega) (fun e=>by
  rcases u q e.symm with e2 | e2 | e2
  ·rcases d q e2 with e3 | e3<;>omega
  ·omega
  ·omega)]
theorem MovesIn.mono{L B d:Nat}{w:World}{own:Option Nat}{xs:List Value}{t:Nat}{c:List Ins}(h:MovesIn L B w own xs t c)(hB:B<=d):MovesIn L d w own xs t c:=by
 intro k o;obtain⟨p,e,a,b,f,i,j,l,h5,m,n⟩:=h k o;exact⟨p,e,a,b,f,i,j,l,by omega,m,n⟩
theorem MovesIn.reown{L B g:Nat}{w:World}{own:Option Nat}{xs:List Value}{t:Nat}{c:List Ins}(h:MovesIn L B w own xs t c)(p:own=some g\/B<=g):MovesIn L B w (some g) xs t c:=by
 intro k r;obtain⟨s,d,a,b,f,i,j,l,m,n,o⟩:=h k r;refine⟨s,d,a,b,f,i,j,l,m,fun q e=>?_,o⟩;cases e
 rcases p with e | e
 ·exact n _ e
 ·exact Or.inr (by omega)
theorem MovesIn.snoc{L B:Nat}{w:World}{own:Option Nat}{xs:List Value}{t:Nat}{c:List Ins}{i:Ins}{j:Nat}{d:Array Value}{a b:Nat}(h:MovesIn L B w own xs t c)(f:xs.length=c.length*3)
  (x:L<=a) (y:b<=B) (A:∀ h,own=some h->h<a\/b<=h) (v:ActSt a b w (.func (.func j) #[] d) t i):
  MovesIn L B w own (xs++moveV j d i) t (c++[i]):=by
 intro k z;by_cases l:k<c.length
 ·obtain⟨C,o,m,n,q,r,s,u⟩:=h k l;have e:(c++[i])[k]=c[k]:=List.getElem_append_left l;refine⟨C,o,m,n,?_,?_,?_,?_⟩
  ·rw [List.getElem?_append_left (by omega)];exact q
  ·rw [List.getElem?_append_left (by omega),e];exact r
  ·rw [List.getElem?_append_left (by omega),e];exact s
  ·rw [e];exact u
 ·have p:k=c.length:=by simp at z;omega
  subst p;have e:(c++[i])[c.length]=i:=by simp
  refine⟨j,d,a,b,?_,?_,?_,x,y,A,?_⟩
  ·rw [List.getElem?_append_right (by omega),f];simp [moveV]
  ·rw [List.getElem?_append_right (by omega),f,e];have:c.length*3+1 - c.length*3=1:=by omega
   rw [this];rfl
  ·rw [List.getElem?_append_right (by omega),f,e];have:c.length*3+2 - c.length*3=2:=by omega
   rw [this];rfl
  ·rw [e];exact v
def Fin(L B:Nat)(w:World)(rows:Array Value)(t:Nat)(p:List (List Ins)):Prop:=
 ∀ j,j<t->∃ v xs,rows[j]?=some v/\w.ownsRow L 115 3 v (codeOf p j).length xs/\(∀ h,v.ownBlock=some h->h<B)/\MovesIn L B w v.ownBlock xs j (codeOf p j)
theorem Fin.step{L B:Nat}{w w':World}{rows:Array Value}{t:Nat}{p:List (List Ins)}{r:Option Nat}(h:Fin L B w rows t p)(m:B<=w.heap.size)(c:w.grownBy w' r)(d:∀ k,r=some k->k<L\/B<=k):Fin L B w' rows t p:=by
 intro j n;obtain⟨v,xs,f,i,b,l⟩:=h j n;refine⟨v,xs,f,?_,b,l.step m c (fun q e=>Or.inr (d q e))⟩;obtain⟨s,a⟩:=i;refine⟨s,?_⟩;rcases a with a | ⟨g,cap,cur,hv,hb,hh,rest⟩
 ·exact Or.inl a
 ·have o:g<w.heap.size:=(Array.getElem?_eq_some_iff.1 hh).1;have hB:=b g (by rw [hv];rfl);refine Or.inr ⟨g,cap,cur,hv,hb,?_,rest⟩;rw [c.block g o (fun e=>by have:=d g e.symm;omega)];exact hh
theorem Fin.rows{L B:Nat}{w:World}{rows:Array Value}{t u:Nat}{x:Value}{p:List (List Ins)}(h:Fin L B w rows t p)(hu:t<=u):Fin L B w (rows.setIfInBounds u x) t p:=by
 intro j e;obtain⟨v,xs,a,b,c,d⟩:=h j e;exact⟨v,xs,by rw [Array.getElem?_setIfInBounds_ne (by omega)];exact a,b,c,d⟩
theorem Fin.mono{L B a:Nat}{w:World}{rows:Array Value}{t:Nat}{p:List (List Ins)}(h:Fin L B w rows t p)(b:B<=a):Fin L a w rows t p:=by
 intro j k;obtain⟨v,xs,c,d,f,i⟩:=h j k;exact⟨v,xs,c,d,fun h e=>Nat.lt_of_lt_of_le (f h e) b,i.mono b⟩
theorem Fin.succ{L B:Nat}{w:World}{rows:Array Value}{t:Nat}{p:List (List Ins)}{v:Value}{xs:List Value}(h:Fin L B w rows t p)(a:rows[t]?=some v)(b:w.ownsRow L 115 3 v (codeOf p t).length xs)
  (c:∀ h,v.ownBlock=some h->h<B) (d:MovesIn L B w v.ownBlock xs t (codeOf p t)):Fin L B w rows (t+1) p:=by
 intro j hj;by_cases e:j=t
 ·subst e;exact⟨v,xs,a,b,c,d⟩
 ·exact h j (by omega)
theorem Fin.rowIs{L B:Nat}{w:World}{rows:Array Value}{t:Nat}{p:List (List Ins)}(h:Fin L B w rows t p){j:Nat}(d:j<t):∃ v,rows[j]?=some v/\RowIs B w v j (codeOf p j):=by
 obtain⟨v,xs,i,c,l,m⟩:=h j d;refine⟨v,i,?_⟩;rcases c.2 with ⟨e,e0⟩ | ⟨g,cap,cur,hv,hb,hh,hrest⟩
 ·exact Or.inl ⟨List.length_eq_zero_iff.1 e0,e⟩
 ·refine Or.inr ⟨g,cap,hv,l g (by rw [hv];rfl),fun k hk=>?_⟩;obtain⟨n,f,a,b,o,q,r,q4,s,q6,u⟩:=m k hk;rw [hv]at c;have hc:=fun j d=>c.cellAt j d
  exact⟨n,f,by rw [hc _ (by omega)];exact o,(u w fun _ _ _=>rfl).mono s,by rw [hc _ (by omega)];exact q,by rw [hc _ (by omega)];exact r⟩
theorem wk:((Tryz.prog.info? 115).map fun i=>(i.zero,i.size,i.bytes))=some (some (.agg #[.nilFunc,.bool false,.int .i64 0]),3,24):=by kernel_rfl
theorem ym:((Tryz.prog.info? 111).map fun i=>(i.zero,i.size,i.bytes))=some (some (.slice none 0 0),1,24):=by kernel_rfl
def Inner(w0:World)(L Bt g m n t k:Nat)(p:List (List Ins))(w:World):Prop:=
 ∃ rows v xs,w.heap[g]?=some (.cells rows 111 (0,0))/\rows.size=n/\rows[t]?=some v/\w.ownsRow Bt 115 3 v k xs/\MovesIn L w.heap.size w v.ownBlock xs t ((codeOf p t).take k)/\
  Fin L Bt w rows t p/\(∀ j,t<j->j<n->rows[j]?=some (.slice none 0 0))/\w.cell? ⟨m,0,none⟩=some (.slice (some ⟨g,0,none⟩) n n)/\w0.grownBy w none/\L<=Bt/\Bt<=w.heap.size/\g<L/\m<L/\g≠m/\w0.heap.size<=g
theorem tW{D:World}{L l g m n t k:Nat}{p:List (List Ins)}{c d f:World}{rows:Array Value}{v:Value}{xs:List Value}{C:Nat}{z:Array Value}{i:Ins}{E:Obj}{g2 o:Nat}
  (Y:c.heap[g]?=some (.cells rows 111 (0,0))) (J:rows.size=n) (B:c.ownsRow l 115 3 v k xs) (j5:MovesIn L c.heap.size c v.ownBlock xs t ((codeOf p t).take k))
  (j6:Fin L l c rows t p) (j7:∀ j,t<j->j<n->rows[j]?=some (.slice none 0 0)) (j9:D.grownBy c none) (Z:L<=l) (aa:l<=c.heap.size) (A:g<L) (ab:m<L) (H:g≠m) (I:D.heap.size<=g)
  (W:t<n) (S:k<(codeOf p t).length) (Q:(codeOf p t)[k]=i)
  (M:∀ u:World,(∀ q,c.heap.size+1<=q->q<d.heap.size->u.heap[q]?=d.heap[q]?)->ActIs d.heap.size u (.func (.func C) #[] z) t i) (O:c.grownBy d none) (hsz4:c.heap.size+1<=d.heap.size)
  (V:f.ownsRow l 115 3 (.slice (some ⟨g2,0,none⟩) (k+1) o) (k+1) (xs++moveV C z i)) (s:(d.alloc E).grownBy f v.ownBlock) (F:v.ownBlock=some g2\/g2=d.heap.size+1)
  (s1:f.cell? ⟨m,0,none⟩=some (.slice (some ⟨g,0,none⟩) n n)):
  Inner D L l g m n t (k+1) p (f.setCell ⟨g,t,none⟩ (.slice (some ⟨g2,0,none⟩) (k+1) o)):=by
 have x:∀ q,v.ownBlock=some q->l<=q/\q<c.heap.size:=fun q e=>⟨iA B q e,by
  rcases B.2 with ⟨e1,_⟩ | ⟨g',_,_,hv,_,hh,_⟩
  ·rw [e1]at e;cases e
  ·rw [hv]at e;have:=(Array.getElem?_eq_some_iff.1 hh).1;simp [Value.ownBlock]at e;omega⟩
 have y:c.grownBy (d.alloc E) none:=iq O;have X:=s.size;simp only [World.size_alloc]at X;have P:g<c.heap.size:=by omega
 have N:f.heap[g]?=some (.cells rows 111 (0,0)):=by
  rw [s.block g (by simp;omega) (fun e=>by have:=x g e.symm;omega),y.block g P (by simp)];exact Y
 have G:f.grownBy (f.setCell ⟨g,t,none⟩ (.slice (some ⟨g2,0,none⟩) (k+1) o)) (some g):=iM;have R:∀ q,c.heap.size+1<=q->q<d.heap.size->(f.setCell ⟨g,t,none⟩ (.slice (some ⟨g2,0,none⟩) (k+1) o)).heap[q]?=d.heap[q]?:=fun q w r=>by
  rw [Below.heap_setCell _ _ _ _ (by simp;omega),s.block q (by simp;omega) (fun e=>by have:=x q e.symm;omega),Below.heap_alloc _ _ _ r]
 have T:MovesIn L c.heap.size f v.ownBlock xs t ((codeOf p t).take k):=(j5.step (Nat.le_refl _) y (fun q e=>by cases e)).step (by simp;omega) s (fun q e=>Or.inl e);have U:=(T.reown (g:=g2) (F.imp id (fun e=>by omega))).step (by omega) G (fun q e=>by cases e;exact Or.inr (Or.inl A));refine⟨rows.setIfInBounds t (.slice (some ⟨g2,0,none⟩) (k+1) o),.slice (some ⟨g2,0,none⟩) (k+1) o,xs++moveV C z i,heap_setCell_same f g t rows _ _ N,by simp [J],by simp [J,W],ownsRow_setCell_below V (by simp;omega) _,?_,?_,?_,?_,?_,Z,by simp;omega,A,ab,H,I⟩
 ·rw [List.take_succ_eq_append_getElem S,Q];refine MovesIn.snoc (a:=c.heap.size+1) (b:=d.heap.size) (U.mono (by simp;omega)) (by rw [B.1];simp;omega) (by omega) (by simp;omega) (fun h e=>?_) (fun u hu=>M u fun q w r=>by rw [hu q w r,R q w r]);have K:h=g2:=by simp [Value.ownBlock]at e;omega
  subst K;rcases F with e2 | e2
  ·have:=x _ e2;omega
  ·omega
 ·exact(((j6.step aa y (fun q e=>by cases e)).step (by simp;omega) s (fun q e=>Or.inr (x q e).1)).step (by omega) G (fun q e=>by cases e;exact Or.inl A)).rows (Nat.le_refl _)
 ·intro j w r;rw [Array.getElem?_setIfInBounds_ne (by omega)];exact j7 j w r
 ·rw [World.cell?_setCell_far _ _ _ _ (by simpa using H)];exact s1
 ·exact iD (iZ (il j9 y) s (fun q e=>by have:=x q e;omega)) I
theorem uV{p:List (List Ins)}{pv:Value}{w:World}(hp:vProg p=true)(Z:ProgAt w pv p):
  Calls Tryz.prog 16 #[pv] w fun e w'=>∃ m,e= .returned (.pointer (some ⟨m,0,none⟩))/\MachAt w'.heap.size w' m p/\w.grownBy w' none:=by
 obtain⟨i0,bq,bB,bC,bD⟩:=info_parts ym;obtain⟨i1,br,bx,bz,bA⟩:=info_parts wk;obtain⟨ao,ba,rfl,Z⟩:=Z;have hlen:=iW hp;have HP:=ij Z;have HV:=ij hp;clear hp Z;have h4:(p.length:Int)<=4:=by omega
 go_enter Tryz.func16,Tryz.ntmps16
 go_wp2_with (at_make;refine wpList_make_full _ rfl _ _ _ rfl (w.heap.size+1) 111 i0 _ 1 Tryz.underlying108 bq bB bC .i64 .i64 _ _ p.length rfl rfl rfl rfl (by rw [bD];omega) (by unfold maxLen;omega) (by simp) ?_;intro f au ap;have bl:f.cell? ⟨w.heap.size,0,none⟩=some (.slice ao p.length ba):=(by rw [ap.cell_far _ (by simp) (by simp)];simp))
 have a5:Hid (w.grownBy f none):=il (iq (ir _ _)) ap;have hsz2:w.heap.size+2<=f.heap.size:=by
  obtain⟨cur,bn,_⟩:=oQ au;have:=(Array.getElem?_eq_some_iff.1 bn).1;simp at this;omega
 have HR:Hid (∃ rows:Array Value,f.heap[w.heap.size+1]?=some (.cells rows 111 (0,0))/\rows.size=p.length/\∀ j,j<p.length->rows[j]?=some (.slice none 0 0)):=by
  rcases au.2 with ⟨e,_⟩ | ⟨g,c,cur,hv,_,hh,_,_,hs,ht⟩
  ·cases e
  ·simp at hv;obtain⟨F,e2⟩:=hv;subst F;subst e2
   refine⟨cur,hh,by omega,fun j hj=>?_⟩;have e:cur.toList=(madeCells #[Value.slice none 0 0] p.length).toList:=by
    rw [List.take_of_length_le (by simp;omega)]at ht;simpa [Value.cells]using ht
   rw [<-Array.getElem?_toList,e,toList_madeCells_one];simp [hj]
 clear au ap bl;go_loopw [17] (fun i w'=>∃ t:Nat,t<=p.length/\i= .int .i64 t/\Hid (∃ rows,w'.heap[w.heap.size+1]?=some (.cells rows 111 (0,0))/\rows.size=p.length/\Fin (f.heap.size+1) w'.heap.size w' rows t p/\(∀ j,t<=j->j<p.length->rows[j]?=some (.slice none 0 0))/\
   w'.cell? ⟨f.heap.size,0,none⟩=some (.slice (some ⟨w.heap.size+1,0,none⟩) p.length p.length)/\w.grownBy w' none/\f.heap.size+1<=w'.heap.size)) (fun i _=>p.length - (intOf i).toNat)
 case atStart=>
  obtain⟨rows,L,G,h3⟩:=HR.out;refine⟨0,Nat.zero_le _,rfl,rows,?_,G,fun j hj=>by omega,fun j _ hj=>h3 j hj,?_,iq a5.out,by simp⟩
  ·rw [Below.heap_alloc _ _ _ (by omega)];exact L
  ·simp
 case round=>
  obtain⟨t,ht,rfl,HI⟩:=hrel;obtain⟨C,bw⟩:∃ C,C=wr:=⟨_,rfl⟩;subst bw;by_cases I:t<p.length
  ·obtain⟨pg,po,rfl,rv,bu,aa⟩:=HP.out t I;obtain⟨ca,bc,rfl,aa⟩:=aa;have hcl:p[t].length<=16:=by have:=jx (jf HV.out I);rwa [kC I]at this
   have hcl2:(p[t].length:Int)<=16:=by omega
   have HC:=ij aa;clear aa;have hrv':C.cell? ⟨pg,po+t,none⟩=some (.slice ca p[t].length bc):=by
    obtain⟨rows,_,_,_,_,_,hg,_⟩:=HI.out;exact ip hg _ _ bu
   have ht0:(0:Int)<=(t:Int):=by omega
   have ht1:(t:Int)<p.length:=by omega
   have Y:Hid (codeOf p t=p[t]):=kC I;generalize bm:p[t]=c at*;clear bm;go_wp2_with fail
   go_loopw [24] (fun i w'=>∃ k:Nat,k<=c.length/\i= .int .i64 k/\Hid (Inner w (f.heap.size+1) C.heap.size (w.heap.size+1) f.heap.size p.length t k p w')) (fun i _=>c.length - (intOf i).toNat)
   case atStart=>
    obtain⟨rows,L,G,h3,h4,h5,h6,h7⟩:=HI.out;exact⟨0,Nat.zero_le _,rfl,rows,_,[],L,G,h4 t (Nat.le_refl _) I,⟨rfl,Or.inl ⟨rfl,rfl⟩⟩,fun k hk=>by simp at hk,h3,fun j hj hj2=>h4 j (by omega) hj2,h5,h6,h7,Nat.le_refl _,by omega,by omega,by omega,by omega⟩
   case round=>
    obtain⟨k,hk,rfl,ah⟩:=hrel;by_cases ar:k<c.length
    ·obtain⟨cg,co,rfl,c0,c1,c2,c3⟩:=HC.out k ar;have l:Pres w wr:=by
      obtain⟨rows,v,xs,_,_,_,_,_,_,_,_,hg,_⟩:=ah.out;exact ip hg
     have d0:=l _ _ c0;have d1:=l _ _ c1;have d2:=l _ _ c2;have d3:=l _ _ c3;clear c0 c1 c2 c3 l;have hk0:(0:Int)<=(k:Int):=by omega
     have hk1:(k:Int)<c.length:=by omega
     obtain⟨rows,v,xs,E,Q,M,N,J,O,R,j8,j9,aZ,ax,a0,a1,a2,a3⟩:=ah.out;have bp:wr.cell? ⟨w.heap.size+1,t,none⟩=some v:=by simp [World.cell?,E,M]
     have bo:wr.frozen? ⟨w.heap.size+1,t,none⟩=false:=by simp [World.frozen?,E]
     have P:=ij N;have J5:=ij J;have J1:=ij E;have J2:=ij Q;have J6:=ij O;have J7:=ij R;have J9:=ij j9;clear E Q M N J O R j9;go_wp2_with fail
     refine iz (fun u=>u.cell? ⟨f.heap.size,0,none⟩=some (.slice (some ⟨w.heap.size+1,0,none⟩) p.length p.length)/\u.cell? ⟨w.heap.size+1,t,none⟩=some v/\u.cell? ⟨wr.heap.size,0,none⟩=some (.int .i64 c[k].op)/\u.cell? ⟨wr.heap.size,1,none⟩=some (.int .i64 c[k].a)/\u.cell? ⟨wr.heap.size,2,none⟩=some (.int .i64 c[k].b)/\u.cell? ⟨wr.heap.size,3,none⟩=some (.int .i64 c[k].n)) 18 (by kernel_rfl) (by kernel_rfl) ?_ ?_
     ·refine⟨?_,?_,?_,?_,?_,?_⟩<;>simp [go_sem,j8,bp]
     intro aO;refine ie 0 ?v0 rfl (by kernel_rfl) (fun _ _ _ h=>h) (by rfl) ?y0 (by assumption) ?_
     case y0=>(intro u d;obtain⟨g1,g2,s,y,z,g6⟩:=d;go_simp;try rfl)
     simp only [Act.put,List.setIfInBounds_toArray];refine ie 1 ?v1 rfl (by kernel_rfl) (fun _ _ _ h=>h) (by rfl) ?y1 (by assumption) ?_
     case y1=>(intro u d;obtain⟨g1,g2,s,y,z,g6⟩:=d;go_simp;try rfl)
     simp only [Act.put];refine ie 2 ?v2 rfl (by kernel_rfl) (fun _ _ _ h=>h) (by rfl) ?y2 (by assumption) ?_
     case y2=>(intro u d;obtain⟨g1,g2,s,y,z,g6⟩:=d;go_simp;try rfl)
     simp only [Act.put];refine ie 3 ?v3 rfl (by kernel_rfl) (fun _ _ _ h=>h) (by rfl) ?y3 (by assumption) ?_
     case y3=>(intro u d;obtain⟨g1,g2,s,y,z,g6⟩:=d;go_simp;try rfl)
     simp only [Act.put];refine ie 4 ?v4 rfl (by kernel_rfl) (fun _ _ _ h=>h) (by rfl) ?y4 (by assumption) ?_
     case y4=>(intro u d;obtain⟨g1,g2,s,y,z,g6⟩:=d;go_simp;try rfl)
     simp only [Act.put];refine ie 5 ?v5 rfl (by kernel_rfl) (fun _ _ _ h=>h) (by rfl) ?y5 (by assumption) ?_
     case y5=>(intro u d;obtain⟨g1,g2,s,y,z,g6⟩:=d;go_simp;try rfl)
     simp only [Act.put];refine ie 6 ?v6 rfl (by kernel_rfl) (fun _ _ _ h=>h) (by rfl) ?y6 (by assumption) ?_
     case y6=>(intro u d;obtain⟨g1,g2,s,y,z,g6⟩:=d;go_simp;try rfl)
     simp only [Act.put];refine ie 7 ?v7 rfl (by kernel_rfl) (fun _ _ _ h=>h) (by rfl) ?y7 (by assumption) ?_
     case y7=>(intro u d;obtain⟨g1,g2,s,y,z,g6⟩:=d;go_simp;try rfl)
     simp only [Act.put];refine ie 8 ?v8 rfl (by kernel_rfl) (fun _ _ _ h=>h) (by rfl) ?y8 (by assumption) ?_
     case y8=>(intro u d;obtain⟨g1,g2,s,y,z,g6⟩:=d;go_simp;try rfl)
     simp only [Act.put];refine ie 9 ?v9 rfl (by kernel_rfl) (fun _ _ _ h=>h) (by rfl) ?y9 (by assumption) ?_
     case y9=>(intro u d;obtain⟨g1,g2,s,y,z,g6⟩:=d;go_simp;try rfl)
     simp only [Act.put];refine ie 10 ?v10 rfl (by kernel_rfl) (fun _ _ _ h=>h) (by rfl) ?y10 (by assumption) ?_
     case y10=>(intro u d;obtain⟨g1,g2,s,y,z,g6⟩:=d;go_simp;try rfl)
     simp only [Act.put];refine ie 11 ?v11 rfl (by kernel_rfl) (fun _ _ _ h=>h) (by rfl) ?y11 (by assumption) ?_
     case y11=>(intro u d;obtain⟨g1,g2,s,y,z,g6⟩:=d;go_simp;try rfl)
     simp only [Act.put];refine ie 12 ?v12 rfl (by kernel_rfl) (fun _ _ _ h=>h) (by rfl) ?y12 (by assumption) ?_
     case y12=>(intro u d;obtain⟨g1,g2,s,y,z,g6⟩:=d;go_simp;try rfl)
     simp only [Act.put];refine ie 13 ?v13 rfl (by kernel_rfl) (fun _ _ _ h=>h) (by rfl) ?y13 (by assumption) ?_
     case y13=>(intro u d;obtain⟨g1,g2,s,y,z,g6⟩:=d;go_simp;try rfl)
     simp only [Act.put];have aY:=rN (qy (by have:=jf HV.out I;rw [Y.out]at this;exact this) ar);refine iu (i:=14) rfl (by kernel_rfl) (by kernel_rfl) (by rfl) ?_;intro K14 aP;have aB:=ij aP;clear aP;go_simp;refine(uh t c[k] aY.1 aY.2 _).mono ?_;rintro e r ⟨B,A,rfl,aT,ab⟩;simp only [];have az:=ij aT;have ad:=ij ab;have bv:wr.heap.size+1<=r.heap.size:=by have:=ab.size;simpa using this
     have al:r.cell? ⟨f.heap.size,0,none⟩=some (.slice (some ⟨w.heap.size+1,0,none⟩) p.length p.length)/\r.cell? ⟨w.heap.size+1,t,none⟩=some v/\r.cell? ⟨wr.heap.size,0,none⟩=some (.int .i64 c[k].op)/\r.cell? ⟨wr.heap.size,1,none⟩=some (.int .i64 c[k].a)/\r.cell? ⟨wr.heap.size,2,none⟩=some (.int .i64 c[k].b)/\r.cell? ⟨wr.heap.size,3,none⟩=some (.int .i64 c[k].n):=by
      obtain⟨S,T,U,V,W,X⟩:=aO;have l:=ip ab;exact⟨l _ _ S,l _ _ T,l _ _ U,l _ _ V,l _ _ W,l _ _ X⟩
     clear aT ab aO;refine aB.out _ _ al ?_;clear aB;refine iu (i:=15) rfl (by kernel_rfl) (by kernel_rfl) (by rfl) ?_;intro K15 aQ;have aC:=ij aQ;clear aQ;go_simp;have am:(r.alloc (.cells #[.func (.func B) #[] A,.bool (c[k].op==9),.int .i64 (if c[k].op=9 then c[k].a else 0)] 115)).cell? ⟨f.heap.size,0,none⟩=some (.slice (some ⟨w.heap.size+1,0,none⟩) p.length p.length)/\(r.alloc (.cells #[.func (.func B) #[] A,.bool (c[k].op==9),.int .i64 (if c[k].op=9 then c[k].a else 0)] 115)).cell? ⟨w.heap.size+1,t,none⟩=some v/\(r.alloc (.cells #[.func (.func B) #[] A,.bool (c[k].op==9),.int .i64 (if c[k].op=9 then c[k].a else 0)] 115)).cell? ⟨wr.heap.size,0,none⟩=some (.int .i64 c[k].op)/\(r.alloc (.cells #[.func (.func B) #[] A,.bool (c[k].op==9),.int .i64 (if c[k].op=9 then c[k].a else 0)] 115)).cell? ⟨wr.heap.size,1,none⟩=some (.int .i64 c[k].a)/\(r.alloc (.cells #[.func (.func B) #[] A,.bool (c[k].op==9),.int .i64 (if c[k].op=9 then c[k].a else 0)] 115)).cell? ⟨wr.heap.size,2,none⟩=some (.int .i64 c[k].b)/\(r.alloc (.cells #[.func (.func B) #[] A,.bool (c[k].op==9),.int .i64 (if c[k].op=9 then c[k].a else 0)] 115)).cell? ⟨wr.heap.size,3,none⟩=some (.int .i64 c[k].n):=by
      obtain⟨S,T,U,V,W,X⟩:=al;have l:=ip (iq (o:= .cells #[.func (.func B) #[] A,.bool (c[k].op==9),.int .i64 (if c[k].op=9 then c[k].a else 0)] 115) (ir r none));exact⟨l _ _ S,l _ _ T,l _ _ U,l _ _ V,l _ _ W,l _ _ X⟩
     refine aC.out _ _ am ?_;clear aC;have af:Hid (wr.grownBy (r.alloc (.cells #[.func (.func B) #[] A,.bool (c[k].op==9),.int .i64 (if c[k].op=9 then c[k].a else 0)] 115)) none):=iq (il (iy (iq (ir _ _))) ad.out);have bh:k+1<=maxLen:=by unfold maxLen;omega
     have bk:(k+1)*24<=140737488355328:=by omega
     refine iu (i:=16) rfl (by kernel_rfl) (by kernel_rfl) (by rfl) ?_;intro K16 aR;have aD:=ij aR;clear aR;refine wp_append_lies _ (.tmp 39) (.tmp 43) 111 (by rfl) C.heap.size 115 i1 _ 3 24 Tryz.underlying111 br bx bz bA rfl (by omega) v k xs (by rfl) (iC P.out af.out (fun _ e=>by cases e)) ⟨r.heap.size,0,none⟩ 1 1 (moveV B A c[k]) (by rfl) (by rfl) (World.news_of_block (cs:= #[.func (.func B) #[] A,.bool (c[k].op==9),.int .i64 (if c[k].op=9 then c[k].a else 0)]) (t:=115) (fr:=(0,0)) (heap_alloc_new r _)) (by simp [moveV,Value.oneCell']) (by omega) bh bk (by simp;omega) (r.heap.size+1) (by simp) ?_;intro g2 bb D aX aq aU hlt5;have aW:∀ q,v.ownBlock=some q->C.heap.size<=q/\q<wr.heap.size:=fun q e=>⟨iA P.out q e,by
      rcases P.out.2 with ⟨F,_⟩ | ⟨g',_,_,hv,_,hh,_⟩
      ·rw [F]at e;cases e
      ·rw [hv]at e;have:=(Array.getElem?_eq_some_iff.1 hh).1;simp [Value.ownBlock]at e;omega⟩
     have H:∀ q o x,(q<C.heap.size\/wr.heap.size<=q)->(r.alloc (.cells #[.func (.func B) #[] A,.bool (c[k].op==9),.int .i64 (if c[k].op=9 then c[k].a else 0)] 115)).cell? ⟨q,o,none⟩=some x->D.cell? ⟨q,o,none⟩=some x:=fun q o x hq hx=>by
      rw [aq.cell_far _ (World.block_lt_of_cell? _ _ hx) (fun e=>by have:=aW q e.symm;omega)];exact hx
     have aS:D.cell? ⟨f.heap.size,0,none⟩=some (.slice (some ⟨w.heap.size+1,0,none⟩) p.length p.length)/\D.cell? ⟨w.heap.size+1,t,none⟩=some v/\D.cell? ⟨wr.heap.size,0,none⟩=some (.int .i64 c[k].op)/\D.cell? ⟨wr.heap.size,1,none⟩=some (.int .i64 c[k].a)/\D.cell? ⟨wr.heap.size,2,none⟩=some (.int .i64 c[k].b)/\D.cell? ⟨wr.heap.size,3,none⟩=some (.int .i64 c[k].n):=by
      obtain⟨S,T,U,V,W,X⟩:=am;exact⟨H _ _ _ (by omega) S,H _ _ _ (by omega) T,H _ _ _ (by omega) U,H _ _ _ (by omega) V,H _ _ _ (by omega) W,H _ _ _ (by omega) X⟩
     have aE:=ij aX;have ae:=ij aq;have aA:=ij aU;clear aX aq aU al am H;refine aD.out _ _ aS ?_;clear aD;simp only [Act.put,List.setIfInBounds_toArray];refine ie 17 ?v17 rfl (by kernel_rfl) (fun _ _ _ h=>h) (by rfl) ?y17 (by assumption) ?_
     case y17=>(intro u d;obtain⟨g1,g2,s,y,z,g6⟩:=d;go_simp;try rfl)
     simp only [Act.put];refine iF rfl (by kernel_rfl) (by kernel_rfl) (by rfl) ?_;obtain⟨s1,s2,_⟩:=aS;have s2f:D.frozen? ⟨w.heap.size+1,t,none⟩=false:=by
      rw [ae.out.frozen_far _ (by simp;omega) (fun e=>by have:=aW _ e.symm;simp at this;omega),af.out.frozen_far _ (by simp;omega) (by simp)];exact bo
     have K:Hid (Inner w (f.heap.size+1) C.heap.size (w.heap.size+1) f.heap.size p.length t (k+1) p (D.setCell ⟨w.heap.size+1,t,none⟩ (.slice (some ⟨g2,0,none⟩) (k+1) bb))):=
      tW J1.out J2.out P.out J5.out J6.out J7.out J9.out aZ ax a0 a1 a2 a3 I (by rw [Y.out];exact ar) (i:=c[k]) (by simp [Y.out]) (fun u d=>az.out u (fun q L G=>d q (by simpa using L) G)) (il (iy (iq (ir _ _))) ad.out) bv aE.out ae.out aA.out s1
     clear J1 J2 P J5 J6 J7 J9 az ad aE ae aA af;go_simp;go_wp2
     go_roundw
     case rel=>exact⟨k+1,by omega,by go_num,K⟩
     case measure=>simp [intOf];omega
    ·have ek:k=c.length:=by omega
     have K:Hid (∃ rows,wr.heap[w.heap.size+1]?=some (.cells rows 111 (0,0))/\rows.size=p.length/\Fin (f.heap.size+1) wr.heap.size wr rows (t+1) p/\(∀ j,t+1<=j->j<p.length->rows[j]?=some (.slice none 0 0))/\
       wr.cell? ⟨f.heap.size,0,none⟩=some (.slice (some ⟨w.heap.size+1,0,none⟩) p.length p.length)/\w.grownBy wr none/\f.heap.size+1<=wr.heap.size):=by
      obtain⟨rows,v,xs,E,Q,M,N,J,O,R,j8,j9,aZ,ax,a0,a1,a2,a3⟩:=ah.out;have bt:(codeOf p t).length=k:=by rw [Y.out];omega
      rw [List.take_of_length_le (by omega)]at J;have bj:∀ h,v.ownBlock=some h->h<wr.heap.size:=fun q e=>by
       rcases N.2 with ⟨F,_⟩ | ⟨g',_,_,hv,_,hh,_⟩
       ·rw [F]at e;cases e
       ·rw [hv]at e;have:=(Array.getElem?_eq_some_iff.1 hh).1;simp [Value.ownBlock]at e;omega
      refine⟨rows,E,Q,(O.mono ax).succ M (by rw [bt];exact iK N (by omega)) bj J,fun j L G=>R j (by omega) G,j8,j9,by omega⟩
     clear ek;go_wp2
     go_roundw
     case rel=>exact⟨t+1,by omega,by go_num,K⟩
     case measure=>simp [intOf];omega
  ·have et:t=p.length:=by omega
   have K:Hid (MachAt C.heap.size C f.heap.size p/\w.grownBy C none):=by
    obtain⟨rows,E,Q,M,N,J,O,R⟩:=HI.out;refine⟨⟨w.heap.size+1,p.length,by omega,by omega,J,fun j hj=>?_⟩,O⟩;obtain⟨v,F,e2⟩:=M.rowIs (j:=j) (by omega);exact⟨v,by simp [World.cell?,E,F],e2⟩
   clear et;go_wp2
   go_ret;exact⟨f.heap.size,rfl,K.out.1,K.out.2⟩
theorem vh(p:List (List Ins))(pv:Value)(w:World)(r:ShpAt w)(b:ProgAt w pv p):
  Calls Tryz.prog 51 #[pv] w fun e w'=>e= .returned (.bool (vProg p))/\w.grownBy w' none:=by
 obtain⟨ao,cap,rfl,b⟩:=b;have y:=ij r;have x:=ij b;clear r b;by_cases n:1<=p.length
 ·by_cases q:p.length<=4
  ·have g1:(1:Int)<=p.length:=by omega
   have A:(p.length:Int)<=4:=by omega
   have a:Hid (vProg p=p.all vCode):=by unfold Hid;simp [vProg,n,q]
   go_enter Tryz.func51,Tryz.ntmps51
   go_wp2
   go_loopw [18] (fun i w'=>∃ k:Nat,k<=p.length/\i= .int .i64 k/\Hid (w.grownBy w' none)/\Hid ((p.take k).all vCode=true)) (fun i _=>p.length - (intOf i).toNat)
   case atStart=>exact⟨0,Nat.zero_le _,rfl,iq (ir _ _),rfl⟩
   case round=>
    obtain⟨k,hk,rfl,j,l⟩:=hrel;by_cases t:k<p.length
    ·obtain⟨g,o,rfl,rv,c0,c1⟩:=x.out k t;have d:=ip j.out;have d0:=d _ _ c0;have u:=ij (c1.pres d);have f:=ij (ju p vCode k t);have z:Hid (ShpAt wr):=y.out.pres d;clear c0 c1 d;have hk0:(0:Int)<=(k:Int):=by omega
     have hk1:(k:Int)<p.length:=by omega
     generalize p[k]=c at*;go_wp2_with fail
     refine(pM c rv _ z.out u.out).mono ?_;rintro e B ⟨rfl,s⟩;have m:Hid (w.grownBy B none):=il j.out s;clear s;cases hv:vCode c
     ·have h:Hid (vProg p=false):=by
       unfold Hid;rw [a.out];have:(p.take (k+1)).all vCode=false:=by rw [f.out,hv];simp
       rw [<-List.take_append_drop (k+1) p,List.all_append,this];rfl
      go_wp2_with fail
      go_ret;exact⟨by rw [h.out];rfl,m⟩
     ·have v:Hid ((p.take (k+1)).all vCode=true):=by unfold Hid;rw [f.out,hv,l.out];rfl
      clear f hv;go_wp2
      go_roundw
      case rel=>exact⟨k+1,by omega,by go_num,m,v⟩
      case measure=>simp [intOf];omega
    ·have h:Hid (vProg p=true):=by
      unfold Hid;rw [a.out];have:=l.out;rw [List.take_of_length_le (by omega)]at this;exact this
     go_wp2
     go_ret;exact⟨by rw [h.out];rfl,j⟩
  ·have a:Hid (vProg p=false):=by unfold Hid;simp [vProg,q]
   have A:(4:Int)<p.length:=by omega
   go_enter Tryz.func51,Tryz.ntmps51
   go_wp2
   go_ret;exact⟨by rw [a.out];rfl,iq (ir _ _)⟩
 ·have a:Hid (vProg p=false):=by unfold Hid;simp [vProg,n]
  have g1:(p.length:Int)<1:=by omega
  go_enter Tryz.func51,Tryz.ntmps51
  go_wp2
  go_ret;exact⟨by rw [a.out];rfl,iq (ir _ _)⟩
theorem ProgAt.form{w:World}{pv:Value}{p:List (List Ins)}(h:ProgAt w pv p):∃ ao cap,pv= .agg #[.slice ao p.length cap]:=by
 obtain⟨ao,cap,e,_⟩:=h;exact⟨ao,cap,e⟩
def checkN(p:List (List Ins)):Int:=if vProg p=true then 0 else 1
def checkRunN(p:List (List Ins))(s:List Int):Int:=if vProg p=true then (if s.length<=500 then 0 else 2) else 1
theorem uJ(p:List (List Ins))(pv:Value)(w:World)(d:ShpAt w)(b:ProgAt w pv p):
  Calls Tryz.prog 18 #[pv] w fun e w'=>e= .returned (.int .i64 (checkN p))/\w.grownBy w' none:=by
 have i:=ij d;have h:=ij b;obtain⟨ao,cap,rfl⟩:=b.form;clear d b;go_enter Tryz.func18,Tryz.ntmps18
 go_wp2_with fail
 refine(vh p _ _ (i.out.pres (ip (iq (ir _ _)))) (h.out.pres (ip (iq (ir _ _))))).mono ?_;rintro e j ⟨rfl,f⟩;have c:Hid (w.grownBy j none):=il (iq (ir _ _)) f;clear f;cases hv:vProg p
 ·have a:Hid (checkN p=1):=by unfold Hid checkN;simp [hv]
  go_wp2_with fail
  go_ret;exact⟨by rw [a.out];rfl,c⟩
 ·have a:Hid (checkN p=0):=by unfold Hid checkN;simp [hv]
  go_wp2_with fail
  go_ret;exact⟨by rw [a.out];rfl,c⟩
def ListsAt(w:World)(v:Value)(ss:List (List Int)):Prop:=
 ∃ g o cap,v= .slice (some ⟨g,o,none⟩) ss.length cap/\∀ k (hk:k<ss.length),∃ so sc,w.cell? ⟨g,o+k,none⟩=some (.slice so ss[k].length sc)
theorem ns{W:World}{b:Option Addr}{s:List Int}{a:Nat}{t:TypeId}{g:Nat}(c:W.heap.size=g):ListsAt (W.alloc (.cells #[.slice b s.length a] t)) (.slice (some ⟨g,0,none⟩) 1 1) [s]:=by
 subst c;refine⟨W.heap.size,0,1,rfl,fun k hk=>⟨b,a,?_⟩⟩;have d:k=0:=by simp at hk;omega
 subst d;have h:=heap_alloc_new W (.cells #[.slice b s.length a] t);simp only [World.cell?,h];rfl
def checkRunsN(p:List (List Ins))(ss:List (List Int)):Int:=if vProg p=true then (if ss.all (fun s=>decide (s.length<=500))=true then 0 else 2) else 1
theorem kQ(p:List (List Ins))(s:List Int):checkRunsN p [s]=checkRunN p s:=by simp [checkRunsN,checkRunN]
theorem la(p:List (List Ins))(a:List (List Int))(pv sv:Value)(w:World)(t:ShpAt w)(m:ProgAt w pv p)(D:ListsAt w sv a)(hn:a.length<=1000):
  Calls Tryz.prog 15 #[pv,sv] w fun e w'=>e= .returned (.int .i64 (checkRunsN p a))/\w.grownBy w' none:=by
 have B:=ij t;have A:=ij m;obtain⟨ao,cap,rfl⟩:=m.form;obtain⟨g,o,scap,rfl,hc⟩:=D;have z:=ij hc;clear t m hc;go_enter Tryz.func15,Tryz.ntmps15
 go_wp2_with fail
 refine(uJ p _ _ (B.out.pres (ip (iq (ir _ _)))) (A.out.pres (ip (iq (ir _ _))))).mono ?_;rintro e E ⟨rfl,u⟩;have l:Hid (w.grownBy E none):=il (iq (ir _ _)) u;clear u;cases hv:vProg p
 ·have b:Hid (checkRunsN p a=1):=by unfold Hid checkRunsN;simp [hv]
  have d:checkN p=1:=by unfold checkN;simp [hv]
  rw [d];clear d;go_wp2_with fail
  go_ret;exact⟨by rw [b.out];rfl,l⟩
 ·have d:checkN p=0:=by unfold checkN;simp [hv]
  rw [d];have r:Hid (checkRunsN p a=if a.all (fun s=>decide (s.length<=500))=true then 0 else 2):=by unfold Hid checkRunsN;rw [if_pos hv]
  clear d hv;have hn':(a.length:Int)<=1000:=by omega
  go_wp2_with fail
  go_loopw [15] (fun i w'=>∃ k:Nat,k<=a.length/\i= .int .i64 k/\Hid (w.grownBy w' none)/\Hid ((a.take k).all (fun s=>decide (s.length<=500))=true)) (fun i _=>a.length - (intOf i).toNat)
  case atStart=>exact⟨0,Nat.zero_le _,rfl,l,rfl⟩
  case round=>
   clear l;obtain⟨k,hk,rfl,c,q⟩:=hrel;obtain⟨x,v⟩:∃ x,x=wr:=⟨_,rfl⟩;rw [<-v]at c ⊢;clear v;by_cases n:k<a.length
   ·obtain⟨so,sc,c0⟩:=z.out k n;have d0:=ip c.out _ _ c0;have h:=ij (ju a (fun s=>decide (s.length<=500)) k n);have j:Hid (a[k].length<=500\/(a.all (fun s=>decide (s.length<=500))=false)):=by
     unfold Hid;by_cases f:a[k].length<=500
     ·exact Or.inl f
     ·right
      cases ha:a.all (fun s=>decide (s.length<=500))with
      | false=>rfl
      | true=>
       rw [List.all_eq_true]at ha;have:=ha _ (List.getElem_mem n);simp at this;omega
    clear c0;have hk0:(0:Int)<=(k:Int):=by omega
    have hk1:(k:Int)<a.length:=by omega
    generalize a[k]=s at*;by_cases f:s.length<=500
    ·have C:(s.length:Int)<=500:=by omega
     have y:Hid ((a.take (k+1)).all (fun s=>decide (s.length<=500))=true):=by unfold Hid;rw [h.out,q.out];simp [f]
     clear h j;go_wp2_with fail
     go_roundw
     case rel=>exact⟨k+1,by omega,by go_num,c,y⟩
     case measure=>simp [intOf];omega
    ·have C:(500:Int)<s.length:=by omega
     have b:Hid (checkRunsN p a=2):=by
      unfold Hid;rw [r.out,if_neg]
      rw [j.out.resolve_left f];simp
     clear h j;go_wp2_with fail
     go_ret;exact⟨by rw [b.out];rfl,c⟩
   ·have b:Hid (checkRunsN p a=0):=by
     unfold Hid;rw [r.out,if_pos]
     have:=q.out;rwa [List.take_of_length_le (by omega)]at this
    go_wp2_with fail
    go_ret;exact⟨by rw [b.out];rfl,c⟩
theorem IntsAt.mono{B a:Nat}{w:World}{v:Value}{l:List Int}(h:IntsAt B w v l)(hb:B<=a):IntsAt a w v l:=by
 obtain⟨b,c,e,i,j⟩:=h;refine⟨b,c,e,i,fun k hk=>?_⟩;obtain⟨g,o,d,e2,f⟩:=j k hk;exact⟨g,o,d,by omega,f⟩
theorem IntsAt.pres{B:Nat}{w w':World}{v:Value}{l:List Int}(h:IntsAt B w v l)(m:Pres w w'):IntsAt B w' v l:=by
 obtain⟨a,b,e,i,j⟩:=h;refine⟨a,b,e,i,fun k hk=>?_⟩;obtain⟨g,o,c,d,f⟩:=j k hk;exact⟨g,o,c,d,m _ _ f⟩
theorem IntsAt.form{B:Nat}{w:World}{v:Value}{l:List Int}(h:IntsAt B w v l):∃ ao cap,v= .slice ao l.length cap:=by
 obtain⟨ao,cap,e,_⟩:=h;exact⟨ao,cap,e⟩
def Replayed(p:List (List Ins))(s:List Int)(w:World)(e:Ending)(w':World):Prop:=
 w.grownBy w' none/\
 ((checkRunN p s=0/\∃ rv,e= .returned (.tuple #[rv,.int .i64 0])/\ResAt w.heap.size w' (runS p s) p.length rv)\/
  (checkRunN p s≠0/\e= .returned (.tuple #[.agg #[.int .i64 0,.int .i64 0,.int .i64 0,.slice none 0 0,.int .i64 0,.int .i64 0,.int .i64 0,.int .i64 0,.slice none 0 0],.int .i64 (checkRunN p s)])))
theorem sV(p:List (List Ins))(s:List Int)(pv sv:Value)(w:World)(U:ShpAt w)(z:ProgAt w pv p)(y:IntsAt w.heap.size w sv s):
  Calls Tryz.prog 4 #[pv,sv] w (Replayed p s w):=by
 have ag:=ij U;have P:=ij z;have HI:=ij y;obtain⟨u,x,rfl⟩:=z.form;obtain⟨so,sc,rfl⟩:=y.form;clear U z y;go_enter Tryz.func4,Tryz.ntmps4
 go_wp2_with fail
 have A:∀ a b c,w.grownBy (((w.alloc a).alloc b).alloc c) none:=fun a b c=>iq (iq (iq (ir _ _)))
 refine(la p [s] _ _ _ (ag.out.pres (ip (A _ _ _))) (P.out.pres (ip (A _ _ _))) (ns (by simp)) (by simp)).mono ?_;rw [kQ];rintro e j ⟨rfl,i⟩;have t:Hid (w.grownBy j none):=il (A _ _ _) i;have hsz1:w.heap.size+2<=j.heap.size:=by have:=i.size;simp at this;omega
 have V:j.heap[w.heap.size]?=some (.cells #[.slice u p.length x] 37 (0,0)):=by
  rw [i.block w.heap.size (by simp;omega) (by simp),Below.heap_alloc _ _ _ (by simp;omega),Below.heap_alloc _ _ _ (by simp)];exact heap_alloc_new w _
 have n:j.heap[w.heap.size+1]?=some (.cells #[.int .i64 0,.int .i64 0,.int .i64 0,.slice none 0 0,.int .i64 0,.int .i64 0,.int .i64 0,.int .i64 0,.slice none 0 0] 31 (0,0)):=by
  rw [i.block (w.heap.size+1) (by simp) (by simp),Below.heap_alloc _ _ _ (by simp)];have:=heap_alloc_new (w.alloc (.cells #[.slice u p.length x] 37)) (.cells #[.int .i64 0,.int .i64 0,.int .i64 0,.slice none 0 0,.int .i64 0,.int .i64 0,.int .i64 0,.int .i64 0,.slice none 0 0] 31);simpa using this
 have Y:=ij n;have c0:j.cell? ⟨w.heap.size,0,none⟩=some (.slice u p.length x):=by simp [World.cell?,V]
 clear V i;by_cases f:checkRunN p s=0
 ·have r:=ij f;have h:vProg p=true:=by
   unfold checkRunN at f;by_cases h:vProg p=true
   ·exact h
   ·simp [h]at f
  have l:s.length<=500:=by
   unfold checkRunN at f;by_cases l:s.length<=500
   ·exact l
   ·simp [h,l]at f
  have Q:=ij h;rw [f];clear f h n;go_wp2_with fail
  refine(uV Q.out (P.out.pres (ip t.out))).mono ?_;rintro e k ⟨m,rfl,S,q⟩;have HM:=ij S;have O:Hid (w.grownBy k none):=il t.out q;have hsz2:w.heap.size+2<=k.heap.size:=by have:=q.size;omega
  have Z:Hid (k.heap[w.heap.size+1]?=some (.cells #[.int .i64 0,.int .i64 0,.int .i64 0,.slice none 0 0,.int .i64 0,.int .i64 0,.int .i64 0,.int .i64 0,.slice none 0 0] 31 (0,0))):=by
   unfold Hid;rw [q.block _ (by omega) (by simp)];exact Y.out
  clear S q c0;go_wp2_with fail
  refine(qo Q.out HM.out (Nat.le_refl _) ((HI.out.pres (ip O.out)).mono (by omega)) l).mono ?_;rintro e X ⟨rv,rfl,⟨sv,gv,rfl,C,D⟩,B⟩;obtain⟨x1,x2,x3,rfl⟩:=iw C;obtain⟨y1,y2,y3,rfl⟩:=iw D;have ad:=ij C;have ae:=ij D;have aa:Hid (w.grownBy X none):=il O.out B;have W:X.heap[w.heap.size+1]?=some (.cells #[.int .i64 0,.int .i64 0,.int .i64 0,.slice none 0 0,.int .i64 0,.int .i64 0,.int .i64 0,.int .i64 0,.slice none 0 0] 31 (0,0)):=by
   rw [B.block _ (by omega) (by simp)];exact Z.out
  obtain⟨E,F,G,H,I,J,K,L,M,d⟩:=jl W;have f0:=d 0;have f1:=d 1;have f2:=d 2;have f3:=d 3;have f4:=d 4;have f5:=d 5;have f6:=d 6;have f7:=d 7;have f8:=d 8;clear d W C D B;generalize T:runS p s=o at*;have af:=ij T;clear T;go_wp2_with fail
  refine bodyPost_ret (v:= .tuple #[.agg #[.int .i64 o.kind,.int .i64 o.thread,.int .i64 o.at_,.slice x1 x2 x3,.int .i64 (o.st.vars 0),.int .i64 (o.st.vars 1),.int .i64 (o.st.vars 2),.int .i64 (o.st.vars 3),.slice y1 y2 y3],.int .i64 0]) ?_ rfl ⟨?_,Or.inl ⟨r.out,_,rfl,?_⟩⟩
  ·simp [results,Tryz.results4,go_sem,E,F,G,H,I,J,K,L,M]
  ·iterate 9 refine iD ?_ (by omega)
   exact aa.out
  ·rw [af.out];refine⟨_,_,rfl,?_,?_⟩
   ·refine iK (base:=k.heap.size) ?_ (by omega);iterate 9 refine ownsRow_setCell_below ?_ (by simp;omega) _
    exact ad.out
   ·refine iK (base:=k.heap.size) ?_ (by omega);iterate 9 refine ownsRow_setCell_below ?_ (by simp;omega) _
    exact ae.out
 ·have r:=ij f;obtain⟨E,F,G,H,I,J,K,L,M,d⟩:=jl n;have f0:=d 0;have f1:=d 1;have f2:=d 2;have f3:=d 3;have f4:=d 4;have f5:=d 5;have f6:=d 6;have f7:=d 7;have f8:=d 8;have hne:(checkRunN p s !=0)=true:=by simpa using f
  clear d n f;generalize R:checkRunN p s=e at*;have N:=ij R;clear R;go_wp2_with fail
  refine bodyPost_ret (v:= .tuple #[.agg #[.int .i64 0,.int .i64 0,.int .i64 0,.slice none 0 0,.int .i64 0,.int .i64 0,.int .i64 0,.int .i64 0,.slice none 0 0],.int .i64 e]) ?_ rfl ⟨?_,Or.inr ⟨by rw [N.out];exact r.out,by rw [N.out]⟩⟩
  ·simp [results,Tryz.results4,go_sem,E,F,G,H,I,J,K,L,M]
  ·iterate 9 refine iD ?_ (by omega)
   exact t.out
def ints(a:List Int):List Value:=a.map fun x=> .int .i64 x
theorem jc(a:List Int):(ints a).length=a.length:=by simp [ints]
theorem lz(a:List Int):∀ v∈ints a,v.oneCell'=true:=by
 intro v b;simp only [ints,List.mem_map]at b;obtain⟨x,_,rfl⟩:=b;rfl
theorem wq(a:List Int)(x:Int):ints (a++[x])=ints a++[.int .i64 x]:=by simp [ints]
theorem iV{w:World}{base:Nat}{v:Value}{a:List Int}(h:w.ownsRow base 3 1 v a.length (ints a)):IntsAt w.heap.size w v a:=by
 rcases h.2 with ⟨e,e0⟩ | ⟨g,cap,cur,hv,hb,hh,hc,_⟩
 ·refine⟨none,0,by rw [e,e0],by omega,fun k hk=>by omega⟩
 ·refine⟨some ⟨g,0,none⟩,cap,hv,hc,fun k hk=>⟨g,0,rfl,(Array.getElem?_eq_some_iff.1 hh).1,?_⟩⟩;rw [hv]at h;rw [Nat.zero_add,h.cellAt k (by omega)];simp [ints,hk]
def resCells(o:Out)(s1 g1:Value):Array Value:= #[.int .i64 o.kind,.int .i64 o.thread,.int .i64 o.at_,s1,.int .i64 (o.st.vars 0),.int .i64 (o.st.vars 1),.int .i64 (o.st.vars 2),.int .i64 (o.st.vars 3),g1]
def zeroRes:Array Value:= #[.int .i64 0,.int .i64 0,.int .i64 0,.slice none 0 0,.int .i64 0,.int .i64 0,.int .i64 0,.int .i64 0,.slice none 0 0]
structure SchAt(w:World)(p:List (List Ins))(pb:Value)(rb:Nat)(a:List Int)(sv:Value)(w':World):Prop where
 grown:w.grownBy w' none
 row:w'.ownsRow w.heap.size 3 1 sv a.length (ints a)
 nil:a=[]->sv= .slice none 0 0
 apart:sv.ownBlock≠some rb
 res:∃ s1 g1,w'.heap[rb]?=some (.cells (resCells (runS p a) s1 g1) 31 (0,0))/\w'.ownsRow w.heap.size 76 2 s1 (runS p a).steps.length (flatS (runS p a).steps)/\w'.ownsRow w.heap.size 28 4 g1 p.length (regsF p.length (runS p a).st)/\s1.ownBlock≠some rb/\g1.ownBlock≠some rb
 box:w'.heap[w.heap.size]?=some (.cells #[pb] 37 (0,0))
 out:w'.heap[w.heap.size+1]?=some (.cells zeroRes 31 (0,0))
 lo:w.heap.size+2<=rb
 hi:rb<w'.heap.size
 good:Sched p a
theorem SchAt.step{w:World}{p:List (List Ins)}{c:Value}{d:Nat}{a:List Int}{sv:Value}{w' f:World}(h:SchAt w p c d a sv w')(b:w'.grownBy f none):SchAt w p c d a sv f:=by
 obtain⟨n,g1,i,j,k,l,m⟩:=h.res;exact⟨il h.grown b,iC h.row b (fun _ e=>by cases e),h.nil,h.apart,⟨n,g1,by rw [b.block _ h.hi (by simp)];exact i,iC j b (fun _ e=>by cases e),iC k b (fun _ e=>by cases e),l,m⟩,
  by rw [b.block _ (by have:=h.lo;have:=h.hi;omega) (by simp)];exact h.box,by rw [b.block _ (by have:=h.lo;have:=h.hi;omega) (by simp)];exact h.out,h.lo,Nat.lt_of_lt_of_le h.hi b.size,h.good⟩
theorem kq{w:World}{base:Nat}{e:TypeId}{c:Nat}{v:Value}{n:Nat}{xs:List Value}{g o:Nat}{u:Value}(h:w.ownsRow base e c v n xs)(f:v.ownBlock≠some g):(w.setCell ⟨g,o,none⟩ u).ownsRow base e c v n xs:=by
 obtain⟨d,a⟩:=h;refine⟨d,?_⟩;rcases a with a | ⟨b,cap,cur,hv,hb,hh,rest⟩
 ·exact Or.inl a
 ·refine Or.inr ⟨b,cap,cur,hv,hb,?_,rest⟩;rw [Below.heap_setCell _ _ _ _ (fun e=>f (by rw [hv];simp [Value.ownBlock,e]))];exact hh
theorem Cm{w:World}{g:Nat}{x0 x1 x2 x3 v x y z A a b c d e f i j k:Value}{t:TypeId}(h:w.heap[g]?=some (.cells #[x0,x1,x2,x3,v,x,y,z,A] t (0,0))):
  (((((((((w.setCell ⟨g,0,none⟩ a).setCell ⟨g,1,none⟩ b).setCell ⟨g,2,none⟩ c).setCell ⟨g,3,none⟩ d).setCell ⟨g,4,none⟩ e).setCell ⟨g,5,none⟩ f).setCell ⟨g,6,none⟩ i).setCell ⟨g,7,none⟩ j).setCell ⟨g,8,none⟩ k).heap[g]?=some (.cells #[a,b,c,d,e,f,i,j,k] t (0,0)):=by
 have l:=heap_setCell_same w g 0 _ t a h;have m:=heap_setCell_same _ g 1 _ t b l;have n:=heap_setCell_same _ g 2 _ t c m;have o:=heap_setCell_same _ g 3 _ t d n;have p:=heap_setCell_same _ g 4 _ t e o;have q:=heap_setCell_same _ g 5 _ t f p;have r:=heap_setCell_same _ g 6 _ t i q;have s:=heap_setCell_same _ g 7 _ t j r;have u:=heap_setCell_same _ g 8 _ t k s;simpa using u
theorem SchAt.set{w:World}{p:List (List Ins)}{m:Value}{c:Nat}{a b:List Int}{sv tv:Value}{w':World}(h:SchAt w p m c a sv w')(o:b≠[])(z:w'.ownsRow w.heap.size 3 1 tv b.length (ints b))(l:tv.ownBlock≠some c){d g1:Value}
  (y:w'.ownsRow w.heap.size 76 2 d (runS p b).steps.length (flatS (runS p b).steps)) (q:w'.ownsRow w.heap.size 28 4 g1 p.length (regsF p.length (runS p b).st)) (j:d.ownBlock≠some c) (f:g1.ownBlock≠some c) (v:Sched p b):
  SchAt w p m c b tv (((((((((w'.setCell ⟨c,0,none⟩ (.int .i64 (runS p b).kind)).setCell ⟨c,1,none⟩ (.int .i64 (runS p b).thread)).setCell ⟨c,2,none⟩ (.int .i64 (runS p b).at_)).setCell ⟨c,3,none⟩ d).setCell ⟨c,4,none⟩ (.int .i64 ((runS p b).st.vars 0))).setCell ⟨c,5,none⟩ (.int .i64 ((runS p b).st.vars 1))).setCell ⟨c,6,none⟩ (.int .i64 ((runS p b).st.vars 2))).setCell ⟨c,7,none⟩ (.int .i64 ((runS p b).st.vars 3))).setCell ⟨c,8,none⟩ g1):=by
 obtain⟨s0,g0,n,_⟩:=h.res;have u:=h.lo;have hhi:=h.hi;have i:∀ k,k≠c->(((((((((w'.setCell ⟨c,0,none⟩ (.int .i64 (runS p b).kind)).setCell ⟨c,1,none⟩ (.int .i64 (runS p b).thread)).setCell ⟨c,2,none⟩ (.int .i64 (runS p b).at_)).setCell ⟨c,3,none⟩ d).setCell ⟨c,4,none⟩ (.int .i64 ((runS p b).st.vars 0))).setCell ⟨c,5,none⟩ (.int .i64 ((runS p b).st.vars 1))).setCell ⟨c,6,none⟩ (.int .i64 ((runS p b).st.vars 2))).setCell ⟨c,7,none⟩ (.int .i64 ((runS p b).st.vars 3))).setCell ⟨c,8,none⟩ g1).heap[k]?=w'.heap[k]?:=fun k hk=>by
  iterate 9 rw [Below.heap_setCell _ _ _ _ (by simpa using hk)]
 refine⟨?_,?_,fun e=>absurd e o,l,⟨d,g1,Cm n,?_,?_,j,f⟩,?_,?_,u,by simp;omega,v⟩
 ·iterate 9 refine iD ?_ (by omega)
  exact h.grown
 ·iterate 9 refine kq ?_ l
  exact z
 ·iterate 9 refine kq ?_ j
  exact y
 ·iterate 9 refine kq ?_ f
  exact q
 ·rw [i _ (by omega)];exact h.box
 ·rw [i _ (by omega)];exact h.out
section
variable {P : Program} {w : World} {ops : Array Oper} {rest : List Oper} {o : Oper} {a : Act} {Q : Exit -> Act -> World -> Prop}
end
theorem ji:((Tryz.prog.info? 3).map fun i=>(i.zero,i.size,i.bytes))=some (some (.int .i64 0),1,8):=by kernel_rfl
theorem iB{w:World}{base e b:Nat}{a:Option Addr}{n c m:Nat}{xs:List Value}(h:w.ownsRow base e b (.slice a n c) m xs):n=m:=by
 rcases h.2 with ⟨e,e0⟩ | ⟨g,cap,cur,hv,_⟩
 ·simp at e;omega
 ·simp at hv;omega
def shapeR(op:Int):Int × Int × Int:=
 if op=1 then (4,0,1) else if 2<=op/\op<=7 then (4,4,0) else if op=8 then (4,0,2) else if op=9\/op=10 then (3,0,0) else if op=11 then (4,0,0) else (-1,0,0)
def belowR(v n:Int):Bool:=v==0 || (decide (0<v) && decide (v<n))
def placeR(c v n:Int):Bool:=c==1 || v==0 || (c==2 && decide (0<v) && decide (v<=n))
def insR(i:Ins)(n:Int):Bool:=!decide ((shapeR i.op).1<0) && belowR i.a (shapeR i.op).1 && belowR i.b (shapeR i.op).2.1 && placeR (shapeR i.op).2.2 i.n n
theorem rQ(v:Int):belowR v 4=belowB v 4:=by
 unfold belowR belowB;rw [Bool.eq_iff_iff];simp;omega
theorem qF(v:Int):belowR v 3=belowB v 3:=by
 unfold belowR belowB;rw [Bool.eq_iff_iff];simp;omega
theorem rR(v:Int):belowR v 0=(v==0):=by
 unfold belowR;rw [Bool.eq_iff_iff];simp;omega
theorem uj(v n:Int)(hn:0<=n):placeR 2 v n=belowB v (n+1):=by
 unfold placeR belowB;rw [Bool.eq_iff_iff];simp;omega
theorem Aq(i:Ins)(n:Int)(e:0<=n):insR i n=vIns i n:=by
 obtain⟨c,a,b,m⟩:=i;by_cases h:1<=c/\c<=11
 ·have hc:c=1\/c=2\/c=3\/c=4\/c=5\/c=6\/c=7\/c=8\/c=9\/c=10\/c=11:=by omega
  have k:placeR 0 m n=(m==0):=by unfold placeR;simp
  have z1:placeR 1 m n=true:=by unfold placeR;simp
  have l:=uj m n e;rcases hc with rfl | rfl | rfl | rfl | rfl | rfl | rfl | rfl | rfl | rfl | rfl<;>simp [insR,vIns,shapeR,shp,fitsB,rQ,qF,rR,k,z1,l,Bool.and_assoc]
 ·have f:shapeR c=(-1,0,0):=by
   unfold shapeR;rw [if_neg (by omega),if_neg (by omega),if_neg (by omega),if_neg (by omega),if_neg (by omega)]
  have j:vIns ⟨c,a,b,m⟩ n=false:=by
   simp only [vIns];by_cases d:1<=c
   ·have:¬c<=11:=by omega
    simp [this]
   ·simp [d]
  rw [j];simp [insR,f]
theorem sL(v n:Int)(w:World):Calls Tryz.prog 54 #[.int .i64 v,.int .i64 n] w fun e w'=>e= .returned (.bool (belowR v n))/\w'=w:=by
 by_cases a:v=0
 ·have HB:Hid (belowR v n=true):=by unfold Hid belowR;simp [a]
  subst a;go_enter Tryz.func54,Tryz.ntmps54
  go_wp2_with fail
  go_ret;exact⟨by rw [HB.out];rfl,rfl⟩
 ·have h0':(v==0)=false:=by simpa using a
  by_cases b:0<v
  ·by_cases c:v<n
   ·have HB:Hid (belowR v n=true):=by unfold Hid belowR;simp [b,c]
    go_enter Tryz.func54,Tryz.ntmps54
    go_wp2_with fail
    go_ret;exact⟨by rw [HB.out];rfl,rfl⟩
   ·have HB:Hid (belowR v n=false):=by unfold Hid belowR;simp [a,c]
    have d:n<=v:=by omega
    go_enter Tryz.func54,Tryz.ntmps54
    go_wp2_with fail
    go_ret;exact⟨by rw [HB.out];rfl,rfl⟩
  ·have HB:Hid (belowR v n=false):=by unfold Hid belowR;simp [a,b]
   have d:v<=0:=by omega
   go_enter Tryz.func54,Tryz.ntmps54
   go_wp2_with fail
   go_ret;exact⟨by rw [HB.out];rfl,rfl⟩
def shapeV(x:Int × Int × Int):Value:= .tuple #[.int .i64 x.1,.int .i64 x.2.1,.int .i64 x.2.2]
theorem A4(a:Int)(w:World):Calls Tryz.prog 53 #[.int .i64 a] w fun e w'=>e= .returned (shapeV (shapeR a))/\w'=w:=by
 by_cases h:1<=a/\a<=11
 ·have hc:a=1\/a=2\/a=3\/a=4\/a=5\/a=6\/a=7\/a=8\/a=9\/a=10\/a=11:=by omega
  rcases hc with rfl | rfl | rfl | rfl | rfl | rfl | rfl | rfl | rfl | rfl | rfl
  all_goals
   go_enter Tryz.func53,Tryz.ntmps53
   go_wp2_with fail
   refine bodyPost_ret (v:=shapeV (shapeR _)) (by simp [results,Tryz.results53,go_sem,shapeV,shapeR]) rfl ⟨rfl,rfl⟩
 ·have b:shapeR a=(-1,0,0):=by
   unfold shapeR;rw [if_neg (by omega),if_neg (by omega),if_neg (by omega),if_neg (by omega),if_neg (by omega)]
  have n1:(a==1)=false:=by simp;omega
  have n2:(a==2)=false:=by simp;omega
  have n3:(a==3)=false:=by simp;omega
  have n4:(a==4)=false:=by simp;omega
  have n5:(a==5)=false:=by simp;omega
  have n6:(a==6)=false:=by simp;omega
  have n7:(a==7)=false:=by simp;omega
  have n8:(a==8)=false:=by simp;omega
  have n9:(a==9)=false:=by simp;omega
  have n10:(a==10)=false:=by simp;omega
  have n11:(a==11)=false:=by simp;omega
  rw [b];clear b h;go_enter Tryz.func53,Tryz.ntmps53
  go_wp2_with fail
  refine bodyPost_ret (v:=shapeV (-1,0,0)) (by simp [results,Tryz.results53,go_sem,shapeV]) rfl ⟨rfl,rfl⟩
end
section
open Go.RowKit
theorem nZ(a b c d:Int)(w:World):(Op.equalIn 10000 28 (.agg #[.int .i64 a,.int .i64 b,.int .i64 c,.int .i64 d]) (.agg #[.int .i64 a,.int .i64 b,.int .i64 c,.int .i64 d])).run Tryz.prog w= .ok true w:=by
 obtain⟨i0,h,hz0,k,hz2⟩:=info_parts ji;have hc:Tryz.prog.cellsOf 3=1:=by simp [Program.cellsOf,h,k]
 have f:Tryz.prog.plainKey 3=true:=by simp [Program.plainKey,Tryz.underlying3]
 rw [show (10000:Nat)=9999+1 from rfl,run_equalIn_array w 9999 _ _ (n:=4) (e:=3) (by first | exact Tryz.underlying28 | kernel_rfl) h,hc];have j:∀ (d:Nat) (v:Int),(Op.equalIn (d+1) 3 (.int .i64 v) (.int .i64 v)).run Tryz.prog w= .ok true w:=fun d v=>by
  rw [run_equalIn_int w d _ _ .i64 v v Tryz.underlying3];simp
 have i:=j 9998;simp only [Nat.reduceAdd]at i;have l:=run_part_plain w f (xs:= #[.int .i64 a,.int .i64 b,.int .i64 c,.int .i64 d]) (off:=0) rfl;have m:=run_part_plain w f (xs:= #[.int .i64 a,.int .i64 b,.int .i64 c,.int .i64 d]) (off:=1) rfl;have o:=run_part_plain w f (xs:= #[.int .i64 a,.int .i64 b,.int .i64 c,.int .i64 d]) (off:=2) rfl;have p:=run_part_plain w f (xs:= #[.int .i64 a,.int .i64 b,.int .i64 c,.int .i64 d]) (off:=3) rfl;simp [List.range,List.range.loop,Op.eqItems,Sem.run_bind,l,m,o,p,i,Result.andThen_ok]
end
section
open Go.RowKit
attribute [local go_sem] Go.World.cell?_alloc_some
def verdV(o:Out):Value:= .agg #[.int .i64 o.kind,.int .i64 o.thread,.int .i64 o.at_]
theorem md(a b:Out)(w:World):Calls Tryz.prog 59 #[verdV a,verdV b] w fun e w'=>e= .returned (.bool (likeV a b))/\w.grownBy w' none:=by
 obtain⟨o,d,k,j,p⟩:=a;obtain⟨bs,f,m,l,q⟩:=b;unfold verdV;simp only;have n:Hid (∀ x y,w.grownBy ((w.alloc x).alloc y) none):=fun x y=>iq (iq (ir _ _))
 by_cases c:d=2
 ·by_cases i:f=2
  ·have h:Hid (likeV ⟨o,d,k,j,p⟩ ⟨bs,f,m,l,q⟩=true):=by unfold Hid likeV;simp [c,i]
   subst c i;go_enter Tryz.func59,Tryz.ntmps59
   go_wp2_with fail
   go_ret;exact⟨by rw [h.out];rfl,n.out _ _⟩
  ·have h:Hid (likeV ⟨o,d,k,j,p⟩ ⟨bs,f,m,l,q⟩=false):=by unfold Hid likeV;simp [c,i]
   have hb:(f==2)=false:=by simpa using i
   subst c;clear i;go_enter Tryz.func59,Tryz.ntmps59
   go_wp2_with fail
   go_ret;exact⟨by rw [h.out];rfl,n.out _ _⟩
 ·have h:Hid (likeV ⟨o,d,k,j,p⟩ ⟨bs,f,m,l,q⟩=(d==f && k==m && j==l)):=by unfold Hid likeV;simp [c]
  have ha:(d==2)=false:=by simpa using c
  clear c;go_enter Tryz.func59,Tryz.ntmps59
  go_wp2_with fail
  all_goals (go_ret;refine⟨?_,n.out _ _⟩;rw [h.out];simp [*])
def insV(i:Ins):List Value:=[.int .i64 i.op,.int .i64 i.a,.int .i64 i.b,.int .i64 i.n]
def insCells(c:List Ins):List Value:=c.flatMap insV
theorem ma(c:List Ins)(i:Ins):insCells (c++[i])=insCells c++insV i:=by simp [insCells]
theorem mL:∀ (c:List Ins) (k:Nat) (hk:k<c.length),(insCells c)[k*4]?=some (.int .i64 c[k].op)/\(insCells c)[k*4+1]?=some (.int .i64 c[k].a)/\(insCells c)[k*4+2]?=some (.int .i64 c[k].b)/\(insCells c)[k*4+3]?=some (.int .i64 c[k].n)
 | [],k,hk=>by simp at hk
 | i::c,0,hk=>by simp [insCells,insV]
 | i::c,k+1,hk=>by
  have h:=mL c k (by simpa using hk);have e:insCells (i::c)=insV i++insCells c:=by simp [insCells]
  have e4:∀ j,(insCells (i::c))[(k+1)*4+j]?=(insCells c)[k*4+j]?:=fun j=>by
   rw [e,List.getElem?_append_right (by simp [insV];omega)];congr 1
   simp [insV];omega
  refine⟨?_,?_,?_,?_⟩
  ·have:=e4 0;simp only [Nat.add_zero]at this;rw [this];simpa using h.1
  ·rw [e4 1];simpa using h.2.1
  ·rw [e4 2];simpa using h.2.2.1
  ·rw [e4 3];simpa using h.2.2.2
def CodeRow(L B:Nat)(w:World)(v:Value)(c:List Ins):Prop:=w.ownsRow L 65 4 v c.length (insCells c)/\∀ h,v.ownBlock=some h->h<B
theorem CodeRow.codeAt{L B:Nat}{w:World}{v:Value}{c:List Ins}(h:CodeRow L B w v c):CodeAt w v c:=by
 obtain⟨a,_⟩:=h;rcases a.2 with ⟨e,e0⟩ | ⟨g,cap,cur,hv,_⟩
 ·refine⟨none,0,by rw [e,e0],fun k hk=>by omega⟩
 ·refine⟨some ⟨g,0,none⟩,cap,hv,fun k hk=>⟨g,0,rfl,?_⟩⟩;rw [hv]at a;have q:=mL c k hk;refine⟨?_,?_,?_,?_⟩
  ·rw [Nat.zero_add,a.cellAt _ (by omega)];exact q.1
  ·rw [Nat.zero_add,a.cellAt _ (by omega)];exact q.2.1
  ·rw [Nat.zero_add,a.cellAt _ (by omega)];exact q.2.2.1
  ·rw [Nat.zero_add,a.cellAt _ (by omega)];exact q.2.2.2
theorem jq{w w':World}{base:Nat}{e:TypeId}{b:Nat}{v:Value}{n:Nat}{xs:List Value}{r:Option Nat}(h:w.ownsRow base e b v n xs)(d:w.grownBy w' r)(i:∀ k,r=some k->v.ownBlock≠some k):w'.ownsRow base e b v n xs:=by
 obtain⟨c,a⟩:=h;refine⟨c,?_⟩;rcases a with a | ⟨g,cap,cur,hv,hb,hh,rest⟩
 ·exact Or.inl a
 ·have f:g<w.heap.size:=(Array.getElem?_eq_some_iff.1 hh).1;refine Or.inr ⟨g,cap,cur,hv,hb,?_,rest⟩;rw [d.block g f (fun e=>i g e.symm (by rw [hv];rfl))];exact hh
theorem mr{w:World}{i j a b z1 q:Nat}{f h:Value}{o p:Nat}{x1 x2:List Value}(l:w.ownsRow i a z1 f o x1)(m:w.ownsRow j b q h p x2)(n:a≠b):∀ k,f.ownBlock=some k->h.ownBlock≠some k:=by
 intro k c d;rcases l.2 with ⟨e,_⟩ | ⟨g,_,c1,hv,_,hh,_⟩
 ·rw [e]at c;cases c
 ·rcases m.2 with ⟨e,_⟩ | ⟨g',_,c2,hv',_,hh',_⟩
  ·rw [e]at d;cases d
  ·rw [hv]at c;rw [hv']at d;have a:g=k:=by simpa [Value.ownBlock]using c
   have b:g'=k:=by simpa [Value.ownBlock]using d
   rw [a]at hh;rw [b,hh]at hh';simp at hh';exact n hh'.2
def Apt(rows:List Value):Prop:=∀ (i j:Nat) (ri rj:Value),i<j->rows[i]?=some ri->rows[j]?=some rj->∀ g,ri.ownBlock=some g->rj.ownBlock≠some g
theorem Apt.nil:Apt []:=fun i j ri rj _ h=>by simp at h
def ThrAt(L B:Nat)(w:World)(tv:Value)(p:List (List Ins)):Prop:=
 ∃ rows,w.ownsRow L 66 1 tv p.length rows/\(∀ h,tv.ownBlock=some h->h<B)/\(∀ j (hj:j<p.length),(∃ rv,rows[j]?=some rv/\CodeRow L B w rv p[j]))/\Apt rows
theorem ThrAt.step{L B:Nat}{w w':World}{tv:Value}{p:List (List Ins)}{r:Option Nat}(h:ThrAt L B w tv p)(f:w.grownBy w' r)(i:∀ q,r=some q->q<L\/B<=q):ThrAt L B w' tv p:=by
 obtain⟨rows,c,d,m,n⟩:=h;refine⟨rows,jq c f (fun k e a=>?_),d,fun j hj=>?_,n⟩
 ·have:=d k a;have:=iA c k a;rcases i k e with q | q<;>omega
 ·obtain⟨rv,l,a,b⟩:=m j hj;refine⟨rv,l,jq a f (fun k e e4=>?_),b⟩;have:=b k e4;have:=iA a k e4;rcases i k e with q | q<;>omega
theorem ThrAt.mono{L B a:Nat}{w:World}{tv:Value}{p:List (List Ins)}(h:ThrAt L B w tv p)(b:B<=a):ThrAt L a w tv p:=by
 obtain⟨rows,i,k,l,m⟩:=h;refine⟨rows,i,fun q e=>Nat.lt_of_lt_of_le (k q e) b,fun j hj=>?_,m⟩;obtain⟨rv,c,d,f⟩:=l j hj;exact⟨rv,c,d,fun q e=>Nat.lt_of_lt_of_le (f q e) b⟩
theorem ThrAt.progAt{L B:Nat}{w:World}{tv:Value}{p:List (List Ins)}(h:ThrAt L B w tv p):ProgAt w (.agg #[tv]) p:=by
 obtain⟨rows,a,h2,d,_⟩:=h;rcases a.2 with ⟨e,e0⟩ | ⟨g,cap,cur,hv,_⟩
 ·refine⟨none,0,by rw [e,e0],fun k hk=>by omega⟩
 ·refine⟨some ⟨g,0,none⟩,cap,by rw [hv],fun j hj=>⟨g,0,rfl,?_⟩⟩;obtain⟨rv,b,c⟩:=d j hj;rw [hv]at a;exact⟨rv,by rw [Nat.zero_add,a.cellAt j (by omega)];exact b,c.codeAt⟩
theorem ThrAt.snoc{L r B:Nat}{w D a:World}{tv v f:Value}{p:List (List Ins)}{c:List Ins}{rows:List Value}(h:ThrAt L r w tv p)(G:r<=B)(M:∀ q,f.ownBlock=some q->r<=q)(A:w.ownsRow L 66 1 tv p.length rows)(J:CodeRow L B w f c)(z:w.grownBy D none)
  (H:D.grownBy a tv.ownBlock) (N:a.ownsRow L 66 1 v (p.length+1) (rows++[f])) (F:B<=a.heap.size) (P:∀ q,v.ownBlock=some q->q<a.heap.size):ThrAt L a.heap.size a v (p++[c]):=by
 obtain⟨d,n,h2,y,E⟩:=h;have O:d=rows:=by
  rcases n.2 with ⟨e,e0⟩ | ⟨g,cap,cur,hv,_,hh,_,_,_,ht1⟩
  ·have m:=n.1;have s:=A.1
   rw [e0]at m s;rw [List.length_eq_zero_iff.1 (by omega:d.length=0),List.length_eq_zero_iff.1 (by omega:rows.length=0)]
  ·rcases A.2 with ⟨e,e0⟩ | ⟨g',cap',cur',hv',_,hh',_,_,_,ht2⟩
   ·rw [e]at hv;cases hv
   ·rw [hv]at hv';simp at hv';obtain⟨b,x⟩:=hv';rw [<-b,hh]at hh';simp at hh';rw [<-ht1,<-ht2,hh']
 subst O;have C:∀ {rv:Value} {c:List Ins},CodeRow L B w rv c->CodeRow L a.heap.size a rv c:=fun {rv c} hc=>by
  have m:=jq hc.1 z (fun k e=>by cases e);have s:=jq n z (fun k e=>by cases e);exact⟨jq m H (fun k e=>mr s m (by decide) k e),fun q e=>Nat.lt_of_lt_of_le (hc.2 q e) F⟩
 have K:d.length=p.length:=by have:=n.1;omega
 refine⟨d++[f],by simpa using N,P,fun j hj=>?_,fun i j ri rj hij hi hj g e e'=>?_⟩
 ·by_cases o:j<p.length
  ·obtain⟨rv,b,x,t⟩:=y j o;exact⟨rv,by rw [List.getElem?_append_left (by omega)];exact b,by rw [List.getElem_append_left o];exact C ⟨x,fun q e=>Nat.lt_of_lt_of_le (t q e) G⟩⟩
  ·have u:j=p.length:=by simp at hj;omega
   subst u;exact⟨f,by rw [List.getElem?_append_right (by omega)];simp [K],by simpa using C J⟩
 ·have I:=(List.getElem?_eq_some_iff.1 hj).1;simp only [List.length_append,List.length_singleton]at I;rw [List.getElem?_append_left (by omega)]at hi;by_cases o:j<d.length
  ·rw [List.getElem?_append_left o]at hj;exact E i j ri rj hij hi hj g e e'
  ·have u:j=d.length:=by omega
   subst u;rw [List.getElem?_append_right (Nat.le_refl _)]at hj;simp at hj;subst hj;obtain⟨rv,b,_,t⟩:=y i (by omega);rw [hi]at b;cases b
   have:=t g e;have:=M g e';omega
theorem su:((Tryz.prog.info? 65).map fun i=>(i.zero,i.size,i.bytes))=some (some (.agg #[.int .i64 0,.int .i64 0,.int .i64 0,.int .i64 0]),4,32):=by kernel_rfl
theorem wh:((Tryz.prog.info? 66).map fun i=>(i.zero,i.size,i.bytes))=some (some (.slice none 0 0),1,24):=by kernel_rfl
def isInt(c:Int):Prop:= -9223372036854775808<=c/\c<=9223372036854775807
theorem rx{w:World}{base e size:Nat}{v:Value}{n:Nat}{xs:List Value}(h:w.ownsRow base e size v n xs):∀ q,v.ownBlock=some q->q<w.heap.size:=fun q eq=>by
 rcases h.2 with ⟨e1,_⟩ | ⟨g',_,_,hv,_,hh,_⟩
 ·rw [e1]at eq;cases eq
 ·rw [hv]at eq;have:=(Array.getElem?_eq_some_iff.1 hh).1;simp [Value.ownBlock]at eq;omega
theorem yp(i:Ins):∀ v∈insV i,v.oneCell'=true:=by
 intro v a;simp only [insV,List.mem_cons,List.not_mem_nil,or_false]at a
 rcases a with rfl | rfl | rfl | rfl<;>rfl
end
section
open Go.RowKit
theorem mS(k t a:Int)(sv b:Value)(c d e f:Value)(w:World):(Instr.field 31 (.agg #[.int .i64 k,.int .i64 t,.int .i64 a,sv,c,d,e,f,b]) 0).run Tryz.prog w= .ok (.agg #[.int .i64 k,.int .i64 t,.int .i64 a]) w:=by
 simp [Instr.field,run_underlying Tryz.underlying31,asAgg,part,Tryz.isAgg26,Tryz.sizeOf26]
end
section
def nilA(x:Value):Prop:=∀ n c,x= .slice none n c->n=0/\c=0
def ProgNil(W:World)(pv:Value):Prop:=∀ g o n cap t rv,pv= .agg #[.slice (some ⟨g,o,none⟩) n cap]->t<n->W.cell? ⟨g,o+t,none⟩=some rv->nilA rv
end
end Go.Proofs.YtklenjmfalljgabGreatDoor
