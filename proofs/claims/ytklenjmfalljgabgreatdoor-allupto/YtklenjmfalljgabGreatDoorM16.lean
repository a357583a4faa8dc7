/- The texts Fhf Fhg Rfo Rfn Fhh Fhi Fhj Rfp Rfq. -/
import Derived.Test.YtklenjmfalljgabGreatDoorM00
import Derived.Test.YtklenjmfalljgabGreatDoorM05
import Derived.Test.YtklenjmfalljgabGreatDoorM07
import Derived.Test.YtklenjmfalljgabGreatDoorM11
import Derived.Test.YtklenjmfalljgabGreatDoorM14
import Derived.Test.YtklenjmfalljgabGreatDoorM15
import Derived.Test.YtklenjmfalljgabGreatDoorSrt
import Derived.BigQuiet
import Derived.Deep.QuietTactic
namespace Go.Proofs.YtklenjmfalljgabGreatDoor
set_option maxRecDepth 100000
set_option maxHeartbeats 8000000
section
open Go.RowKit
def encP(x:Int × Int):List Value:=[.int .i64 x.1,.int .i64 x.2]
theorem ltP(x y:Int × Int):ltOf cmpP x y=decide (x.1<y.1\/(x.1=y.1/\x.2<y.2)):=by
 unfold ltOf cmpP orI cmpI;rw [Bool.eq_iff_iff];simp only [decide_eq_true_eq];repeat' split
 all_goals omega
theorem Cn:Sort.SWO (ltOf cmpP) where
 irrefl x:=by rw [ltP];simp
 trans x y z h1 h2:=by rw [ltP]at*;simp only [decide_eq_true_eq]at*;omega
 ntrans x y z h1 h2:=by rw [ltP]at*;simp only [decide_eq_false_iff_not]at*;omega
theorem rK{b:List (Nat × Nat)}{a:Array (Int × Int)}(u:Sort.PermIn 0 (b.map pairI).toArray.size (b.map pairI).toArray a)(y:Sort.SortedIn (ltOf cmpP) 0 (b.map pairI).toArray.size a):a.toList=(sortK b).map pairI:=by
 obtain⟨n,_,d⟩:=u;have A:a.size=b.length:=by rw [n];simp
 have f:a.toList.Perm (b.map pairI):=by
  have l:(a.extract 0 (b.map pairI).toArray.size).toList=a.toList:=by rw [Array.toList_extract];simp [List.extract];rw [List.take_of_length_le (by simp [A])]
  have m:((b.map pairI).toArray.extract 0 (b.map pairI).toArray.size).toList=b.map pairI:=by rw [Array.toList_extract];simp [List.extract];rw [List.take_of_length_le (by simp)]
  rw [l,m]at d;exact d
 have c:∀ x∈a.toList,pairI (x.1.toNat,x.2.toNat)=x:=fun x hx=>by
  obtain⟨q,_,rfl⟩:=List.mem_map.1 (f.mem_iff.1 hx);simp [pairI]
 have w:(a.toList.map fun x=>(x.1.toNat,x.2.toNat)).map pairI=a.toList:=by
  rw [List.map_map];conv=>rhs;rw [<-List.map_id a.toList]
  exact List.map_congr_left (fun x hx=>c x hx)
 have v:(a.toList.map fun x=>(x.1.toNat,x.2.toNat)).Perm b:=by
  have:=f.map (fun x:Int × Int=>(x.1.toNat,x.2.toNat));have e:(b.map pairI).map (fun x:Int × Int=>(x.1.toNat,x.2.toNat))=b:=by
   rw [List.map_map];conv=>rhs;rw [<-List.map_id b]
   exact List.map_congr_left (fun x _=>by simp [pairI])
  rw [e]at this;exact this
 have z:(a.toList.map fun x=>(x.1.toNat,x.2.toNat)).Pairwise leP:=by
  rw [List.pairwise_map,List.pairwise_iff_getElem];intro i j o s r;have p:i<a.size:=by simpa using o
  have t:j<a.size:=by simpa using s
  have:=y i j (Nat.zero_le _) r (by simp;omega);rw [ltP,getElem!_pos a i p,getElem!_pos a j t]at this;have h:=c a[i] (by simp);have k:=c a[j] (by simp);simp only [decide_eq_false_iff_not]at this;simp only [pairI,Prod.ext_iff]at h k;unfold leP;simp only [Array.getElem_toList];omega
 rw [qu v.symm z,w]
theorem mp{w0 w w':World}{g:Nat}(h:w0.grownBy w none)(hg:w.grownBy w' (some g))(hl:w0.heap.size<=g):w0.grownBy w' none:=
 ⟨hg.os.trans h.os,hg.tape.trans h.tape,hg.output.trans h.output,Nat.le_trans h.size hg.size,fun k hk _=>by
  rw [hg.block k (Nat.lt_of_lt_of_le hk h.size) (by simp;omega)];exact h.block k hk (by simp)⟩
theorem BY(a:List (Nat × Nat))(g:Nat)(w:World)(m:w.heap[g]?=some (.cells (flatK a).toArray 165 (0,0)))(hn:a.length<=1000000):
  Calls Tryz.prog 86 #[.slice (some ⟨g,0,none⟩) a.length a.length,.func (.func 87) #[] #[]] w fun e w'=>e= .returned (.tuple #[])/\(∀ j (d:j<(sortK a).length),w'.cell? ⟨g,j*2,none⟩=some (.int .i64 ((sortK a)[j].1:Int))/\w'.cell? ⟨g,j*2+1,none⟩=some (.int .i64 ((sortK a)[j].2:Int)))/\w.grownBy w' (some g):=by
 have u:g<w.heap.size:=(Array.getElem?_eq_some_iff.1 m).1;have H:∀ args w,(callFunc 87 args).run Tryz.prog w= .ok (.enter 87 args) w:=enters_of Tryz.func87 (by kernel_rfl) rfl;have c:(a.map pairI).toArray.size=a.length:=by simp
 have r:Sort.HoldsK encP 2 w g 0 (a.map pairI).toArray:=by
  intro t C;rw [Sort.size_flatK,c]at C;rw [Sort.get_flatK _ _ _ _ (by rw [c];exact C)];refine⟨?_,by simp [World.frozen?,m]⟩;have d:t / 2<(a.map pairI).length:=by simp;omega
  have B:=oE (a.map pairI) (t / 2) d;have i:((a.map pairI).toArray)[t / 2]! =(a.map pairI)[t / 2]:=by rw [getElem!_pos _ _ (by simpa using d)];simp
  rw [i];simp only [World.cell?,m];unfold flatK;rcases(by omega:t % 2=0\/t % 2=1)with h | h
  ·have l:0+t=t / 2*2:=by omega
   rw [h,l];simpa [encP]using B.1
  ·have l:0+t=t / 2*2+1:=by omega
   rw [h,l];simpa [encP]using B.2
 have p:=AnyQ.slices_SortFunc Tryz.srt 2 Tryz.isAgg165 Tryz.sizeOf165 encP (fun _=>rfl) (fun x v hv=>by simp [encP]at hv;rcases hv with rfl | rfl<;>rfl) cmpP Cn 87 #[] g 0 a.length (a.map pairI).toArray w H (fun _ _ _ _ x y=>vE x y _) r u (by rw [c];omega);change Calls Tryz.prog 86 _ _ _ at p
 rw [c]at p;refine p.mono ?_;rintro e w' ⟨rfl,b,n,f,K,L,rfl⟩;have J:=rK (by rw [c];exact K) (by rw [c];exact L);have z:b.size=a.length:=by have:=congrArg List.length J;simpa [(ke a).length_eq]using this
 have I:Sort.HoldsK encP 2 (Sort.ahead w n) g 0 (a.map pairI).toArray:=r;have s:Sort.HoldsK encP 2 (Sort.putRowK encP 2 (Sort.ahead w n) g 0 b) g 0 b:=Sort.holdsK_putRowK encP 2 _ _ _ _ _ I (by rw [c,z]);have q:(Sort.putRowK encP 2 (Sort.ahead w n) g 0 b).heap.size=w.heap.size:=by unfold Sort.putRowK;rw [Sort.size_putRow];rfl
 refine⟨rfl,fun j d=>?_,?_⟩
 ·have A:j<b.size:=by rw [z,<-(ke a).length_eq];exact d
  have D:b[j]! =pairI (sortK a)[j]:=by
   rw [getElem!_pos b j A];have i:b.toList[j]'(by simpa using A)=((sortK a).map pairI)[j]'(by simpa using d):=by congr 1
   simpa using i
  have E:∀ o v,(Sort.putRowK encP 2 (Sort.ahead w n) g 0 b).cell? ⟨g,o,none⟩=some v->(sortWorldK encP 2 w g 0 n b f).cell? ⟨g,o,none⟩=some v:=fun o v hc=>by
   unfold sortWorldK;rw [World.cell?_of_block (w:=Sort.putRowK encP 2 (Sort.ahead w n) g 0 b) (by
    show ((Sort.putRowK encP 2 (Sort.ahead w n) g 0 b).heap++f)[g]?=_
    rw [Array.getElem?_append_left (by rw [q];exact u)])]
   exact hc
  have k0:=(s (j*2) (by rw [Sort.size_flatK];omega)).1;have k1:=(s (j*2+1) (by rw [Sort.size_flatK];omega)).1;rw [Sort.get_flatK _ _ _ _ (by omega)]at k0 k1;have F:j*2 / 2=j:=by omega
  have G:(j*2+1) / 2=j:=by omega
  have M:j*2 % 2=0:=by omega
  have N:(j*2+1) % 2=1:=by omega
  rw [F,M,D]at k0;rw [G,N,D]at k1;simp only [Nat.zero_add]at k0 k1;exact⟨E _ _ k0,E _ _ k1⟩
 ·refine⟨rfl,rfl,rfl,?_,fun k hk hne=>?_⟩
  ·show w.heap.size<=((Sort.putRowK encP 2 (Sort.ahead w n) g 0 b).heap++f).size
   rw [Array.size_append,q];omega
  ·show ((Sort.putRowK encP 2 (Sort.ahead w n) g 0 b).heap++f)[k]?=w.heap[k]?
   rw [Array.getElem?_append_left (by rw [q];exact hk)];show (w.heap.modify g _)[k]?=w.heap[k]?
   rw [Array.getElem?_modify,if_neg (fun e=>hne (by rw [e]))]
end
section
open Go.RowKit
attribute [local go_sem] Go.World.cell?_alloc_some
theorem nk:((Tryz.prog.info? 3).map fun i=>(i.zero,i.size,i.bytes))=some (some (.int .i64 0),1,8):=by kernel_rfl
def intsF(a:List Int):List Value:=a.map fun x=> .int .i64 x
theorem yT(L:List Value)(x:Value)(i n:Nat)(b:L.length=i)(hi:i<n):(L++List.replicate (n - i) (Value.int .i64 0)).set i x=(L++[x])++List.replicate (n - (i+1)) (Value.int .i64 0):=by
 obtain⟨k,a⟩:∃ k,n - i=k+1/\n - (i+1)=k:=⟨n - (i+1),by omega,rfl⟩;rw [a.1,a.2,List.set_append,if_neg (by omega),b,Nat.sub_self,List.replicate_succ,List.set_cons_zero];simp
structure FmIn(fs:List Int)(W w':World)(gf i:Nat):Prop where
 row:w'.heap[gf]?=some (.cells (intsF (fs.take i)++List.replicate (fs.length - i) (Value.int .i64 0)).toArray 3 (0,0))
 gr:W.grownBy w' (some gf)
theorem ws{p:List (List Ins)}{o:Out}{xs:List Ev}(hp:vProg p=true)(Y:Stood p o xs)(aE:xs.length<=500)(w:World)(pv:Value)(C:ProgAt w pv p)(base:Nat)(M:Option Addr)(N:Nat)
  (hs:w.ownsRow base 76 2 (.slice M xs.length N) xs.length (flatS o.steps)) (v0 v1 v2 v3:Int) (V:Option Addr) (X W:Nat):
  Calls Tryz.prog 56 #[pv,.agg #[.int .i64 o.kind,.int .i64 o.thread,.int .i64 o.at_,.slice M xs.length N,.int .i64 v0,.int .i64 v1,.int .i64 v2,.int .i64 v3,.slice V X W]] w fun e w'=>∃ v,e= .returned v/\w'.ownsRow w.heap.size 3 1 v (formE p xs).length (intsF (formE p xs))/\w.grownBy w' none:=by
 obtain⟨i0,aK,aM,aN,aO⟩:=info_parts nk;obtain⟨ao,cap,rfl⟩:=C.form;have HP:=ij C;have HV:=ij hp;have az:=ij Y;have HR:=ij hs;have r:=kt p xs;have q0:(xs.length:Int)<=500:=by omega
 have q1:(0:Int)<=(xs.length:Int):=by omega
 clear C hp Y hs;go_enter Tryz.func56,Tryz.ntmps56
 go_wp2_with fail
 have F:∀ a b,w.grownBy ((w.alloc a).alloc b) none:=fun a b=>iq (iq (ir _ _))
 refine(AH HV.out az.out aE _ _ (HP.out.pres (ip (F _ _))) base M N (iG (iG HR.out)) v0 v1 v2 v3 V X W).mono ?_;rintro e O ⟨g,rfl,hg,K,ac⟩;have au:Hid (w.grownBy O none):=il (F _ _) ac;have aJ:w.heap.size<=g:=by simp at hg;omega
 have I:(keysE p xs).length=xs.length:=by unfold keysE;rw [List.length_map,iX]
 have B:=ij (BY (keysE p xs) g O K (by omega));rw [I]at B;have ae:g<O.heap.size:=(Array.getElem?_eq_some_iff.1 K).1;clear ac K hg F;go_wp2_with fail
 refine B.out.mono ?_;clear B;rintro e l ⟨rfl,Z,G⟩;have hsl:(sortK (keysE p xs)).length=xs.length:=by rw [(ke _).length_eq,I]
 have Q:Hid (formE p xs=(sortK (keysE p xs)).map fun x=>(x.2:Int)):=rfl;generalize sortK (keysE p xs)=qs at*;have A:=ij Z;have T:Hid (w.grownBy l none):=mp au.out G aJ;obtain⟨d,E⟩:∃ d,d=formE p xs:=⟨_,rfl⟩;rw [<-E]at Q r;have ar:=ij E;clear E;have aI:g<l.heap.size:=Nat.lt_of_lt_of_le ae G.size;clear Z G I;go_upto_region 4 with (at_make;refine wpList_make_full _ rfl _ _ _ rfl l.heap.size 3 i0 _ 1 Tryz.underlying39 aK aM aN .i64 .i64 _ _ xs.length rfl rfl rfl rfl (by rw [aO];omega) (by unfold maxLen;omega) (by simp) ?_;intro h af s)
 have L:h.heap[l.heap.size]?=some (.cells (List.replicate xs.length (Value.int .i64 0)).toArray 3 (0,0)):=by
  rcases af.2 with ⟨e,_⟩ | ⟨g',cap',cur,hv,_,hh,_,_,hcs,htk⟩
  ·cases e
  ·simp only [Value.slice.injEq,Option.some.injEq,Addr.mk.injEq,true_and,and_true]at hv;obtain⟨rfl,rfl⟩:=hv;rw [hh];have e1:cur.toList=List.replicate xs.length (Value.int .i64 0):=by
    have U:(madeCells #[Value.int .i64 0] (xs.length*1)).toList=List.replicate (xs.length*1) (Value.int .i64 0):=by
     apply List.ext_getElem (by simp [madeCells]);intro i h1 h2;simp only [madeCells,Array.toList_map,List.getElem_map,List.getElem_replicate,Array.toList_range,List.getElem_range];simp [Nat.mod_one]
    rw [Nat.mul_one]at U;rw [<-U];simp only [Value.cells,Nat.mul_one]at htk hcs;rw [<-htk,List.take_of_length_le (by simp;omega)]
   rw [<-e1]
 have aq:Hid (∀ j (hj:j<qs.length),h.cell? ⟨g,j*2,none⟩=some (.int .i64 (qs[j].1:Int))/\h.cell? ⟨g,j*2+1,none⟩=some (.int .i64 (qs[j].2:Int))):=fun j hj=>⟨ip s _ _ (A.out j hj).1,ip s _ _ (A.out j hj).2⟩
 have av:Hid (w.grownBy h none):=il T.out s;have y:Hid (FmIn d h h l.heap.size 0):=⟨by simpa [intsF,r]using L,ir _ _⟩;obtain⟨c,H⟩:∃ c,c=l.heap.size:=⟨_,rfl⟩;have hgf3:c<h.heap.size:=by rw [H];exact(Array.getElem?_eq_some_iff.1 L).1
 have aH:g≠c:=by omega
 have ad:w.heap.size<=c:=by have:=T.out.size;omega
 have aG:g<h.heap.size:=by omega
 rw [<-H]at y ⊢;clear af s L A H ae aI;go_wp2_with fail
 go_loopw [19] (fun iv w'=>∃ i:Nat,i<=xs.length/\iv= .int .i64 i/\Hid (FmIn d h w' c i)) (fun iv _=>xs.length - (intOf iv).toNat)
 case atStart=>exact⟨0,Nat.zero_le _,rfl,y⟩
 case round=>
  clear y;obtain⟨i,hi,rfl,k⟩:=hrel;obtain⟨f,aj⟩:∃ f,f=wr:=⟨_,rfl⟩;rw [<-aj]at k ⊢;clear aj;by_cases hlt:i<xs.length
  ·have aL:i<qs.length:=by omega
   obtain⟨c0,c1⟩:=aq.out i aL;have D:=k.out.gr.block g aG (by simpa using aH);have d0:f.cell? ⟨g,i*2,none⟩=some (.int .i64 (qs[i].1:Int)):=by rw [World.cell?_of_block D];exact c0
   have d1:f.cell? ⟨g,i*2+1,none⟩=some (.int .i64 (qs[i].2:Int)):=by rw [World.cell?_of_block D];exact c1
   have aa:i<d.length:=by omega
   have S:Hid (d.take (i+1)=d.take i++[(qs[i].2:Int)]):=by
    unfold Hid;rw [List.take_succ_eq_append_getElem aa];congr 2
    simp [Q.out]
   have hs5:h.heap.size<=f.heap.size:=k.out.gr.size;obtain⟨R,n⟩:∃ R:List Value,R=intsF (d.take i)++List.replicate (d.length - i) (Value.int .i64 0):=⟨_,rfl⟩;have aF:R.length=d.length:=by rw [n];simp [intsF];omega
   have J:=k.out.row;rw [<-n]at J;clear c0 c1 D;generalize qs[i]=q at*;obtain⟨u,m⟩:=q;simp only at d0 d1 S;have t:(f.alloc (.cells #[.int .i64 (u:Int),.int .i64 (m:Int)] 165)).heap[c]?=some (.cells R.toArray 3 (0,0)):=by
    rw [Below.heap_alloc _ _ _ (by omega)];exact J
   have z0:∃ z,(f.alloc (.cells #[.int .i64 (u:Int),.int .i64 (m:Int)] 165)).cell? ⟨c,i,none⟩=some z:=⟨R[i]'(by omega),by simp only [World.cell?,t];simp⟩;obtain⟨z,z0⟩:=z0;have fz0:(f.alloc (.cells #[.int .i64 (u:Int),.int .i64 (m:Int)] 165)).frozen? ⟨c,i,none⟩=false:=by simp [World.frozen?,t]
   have aw:Hid (FmIn d h ((f.alloc (.cells #[.int .i64 (u:Int),.int .i64 (m:Int)] 165)).setCell ⟨c,i,none⟩ (.int .i64 (m:Int))) c (i+1)):=by
    refine⟨?_,il k.out.gr (il (iq (ir _ _)) mo)⟩;rw [heap_setCell_same _ c i _ _ _ t,S.out];simp only [List.setIfInBounds_toArray];rw [n,yT _ _ i d.length (by simp [intsF];omega) aa];simp [intsF]
   have t0:(0:Int)<=(i:Int):=by omega
   have t1:(i:Int)<xs.length:=by omega
   have hne5:c≠f.heap.size:=by omega
   have hne6:f.heap.size≠c:=by omega
   clear J t n aF;go_wp2_with fail
   go_roundw
   case rel=>exact⟨i+1,by omega,by go_num,aw⟩
   case measure=>simp [intOf];omega
  ·have t1:(xs.length:Int)<=(i:Int):=by omega
   have ei:i=xs.length:=by omega
   have P:Hid (f.ownsRow w.heap.size 3 1 (.slice (some ⟨c,0,none⟩) xs.length xs.length) d.length (intsF d)/\w.grownBy f none):=by
    have hr:=k.out.row;rw [List.take_of_length_le (by omega),show d.length - i=0 by omega]at hr;refine⟨⟨by simp [intsF],Or.inr ⟨c,xs.length,_,by rw [r],ad,hr,by omega,by unfold maxLen;omega,by simp [intsF,r],?_⟩⟩,mp av.out k.out.gr ad⟩;simp [intsF];rw [List.take_of_length_le (by simp)]
   go_wp2_with fail
   go_ret;refine⟨.slice (some ⟨c,0,none⟩) xs.length xs.length,rfl,?_,P.out.2⟩;rw [<-ar.out];exact P.out.1
structure OtIn(W w':World)(v:Value)(L:List Int):Prop where
 row:w'.ownsRow W.heap.size 3 1 v L.length (ints L)
 gr:W.grownBy w' none
theorem AO{p:List (List Ins)}{xs:List Ev}(h500:xs.length<=500){W:World}{b C gc sc:Nat}{S:Option Addr}(L:W.cell? ⟨b,10,none⟩=some (.slice S xs.length sc))
  (Z:Hid (∀ i,i<xs.length->∃ g h j,(keysE p xs)[i]?=some (h,j)/\S=some ⟨g,0,none⟩/\W.cell? ⟨C,i,none⟩=some (.int .i64 (h:Int))/\W.cell? ⟨g,i*2,none⟩=some (.int .i64 (j:Int))/\h<=500/\j<4))
  {Q:Exit->Act->World->Prop} {c1 c2 c5 c6 c7 c8 c9 af au aC aD aE aF aG aH aI aJ aL aM aN aO aP aQ aR aS aT aU aV aW aX aY aZ a0 a1 a2 a3 a4 a5 a6 a7 a8 a9 ba bb bc bd be bg bh bi bj bk bl bm bn bo bp bq br bt bu bv bw bx bz bA bB bD bE bF bG bH bI bJ bK bL bM bO bP bQ bR bS bT bU bV bW bX bZ b0 b1 b2 b3 b4 b5 b6 b7 b8 ag ah ai aj ak al am ap aq ar av aw ax ay az aA aB:Value}
  (HQ:Hid (∀ {z0 z1 z3 z4 z5 z6 z7 z8 z9 cu cF cN cO cP cQ cR cS cT cU cV cW cX cY cZ c3 c4 da db dc de df dg dh di dj dk dl dm dn dq dr ds dt du dv dw dx dy dz dB dC dD dE dF dG dH dI dJ dK dM dN dO dP dQ dR dS dT dU dV dX dY dZ d0 d4 d5 d6 d7 d8 d9 eb ec ed ee ef eg eh ei ej ek em en eo ep eq er es et eu ev cv cw cx cy cz cA cB cC cD cE cG cH cI cJ cK cL cM:Value} (v:Value) (w':World),OtIn W w' v (thrL (goThrough xs.length (keysE p xs)))->Q .ret ⟨#[z0,z1,v,z3,z4,z5,z6,z7,z8,z9,cu,cF,cN,cO,cP,cQ,cR,cS,cT,cU,cV,cW,cX,cY,cZ,c3,c4,da,db,dc,de,df,dg,dh,di,dj,dk,dl,dm,dn,dq,dr,ds,dt,du,dv,dw,dx,dy,dz,dB,dC,dD,dE,dF,dG,dH,dI,dJ,dK,dM,dN,dO,dP,dQ,dR,dS,dT,dU,dV,dX,dY,dZ,d0,d4,d5,d6,d7,d8,d9,eb,ec,ed,ee,ef,eg,eh,ei,ej,ek,em,en,eo,ep,eq,er,es,et,eu,ev,cv,cw,cx,cy,cz,cA,cB,cC,cD,cE,cG,cH,cI,cJ,cK,cL,cM],[]⟩ w')):
  Code.wp Tryz.prog (tailOf Tryz.f57 14) Q ⟨#[.pointer (some ⟨b,0,none⟩),c1,c2,.int .i64 (xs.length:Int),.slice (some ⟨C,0,none⟩) xs.length gc,c5,c6,c7,c8,c9,af,au,aC,aD,aE,aF,aG,aH,aI,aJ,aL,aM,aN,aO,aP,aQ,aR,aS,aT,aU,aV,aW,aX,aY,aZ,a0,a1,a2,a3,a4,a5,a6,a7,a8,a9,ba,bb,bc,bd,be,bg,bh,bi,bj,bk,bl,bm,bn,bo,bp,bq,br,bt,bu,bv,bw,bx,bz,bA,bB,bD,bE,bF,bG,bH,bI,bJ,bK,bL,bM,bO,bP,bQ,bR,bS,bT,bU,bV,bW,bX,bZ,b0,b1,b2,b3,b4,b5,b6,b7,b8,ag,ah,ai,aj,ak,al,am,ap,aq,ar,av,aw,ax,ay,az,aA,aB],[]⟩ W:=by
 conv=>arg 2;whnf
 obtain⟨i0,ce,cj,ck,cl⟩:=info_parts nk;have q0:(xs.length:Int)<=500:=by omega
 have q1:(0:Int)<=(xs.length:Int):=by omega
 have I:=np p xs;have A:=ij I;have Y:=ij (fun l t i J M=>Ad (keysE p xs) l t i J M (by omega));have z:Hid (OtIn W W (.slice none 0 0) (thrL (goAt (keysE p xs) 0 0 0))):=⟨by rw [vV];exact⟨rfl,Or.inl ⟨rfl,rfl⟩⟩,ir _ _⟩;have V:=ij L;clear I L;go_wp2_with fail
 go_loopw [8,9] (fun ov lv w'=>∃ l:Nat,l<=xs.length/\lv= .int .i64 l/\Hid (OtIn W w' ov (thrL (goAt (keysE p xs) l 0 0)))) (fun _ lv _=>xs.length - (intOf lv).toNat)
 case atStart=>exact⟨0,Nat.zero_le _,rfl,z⟩
 case round=>
  clear z;obtain⟨l,J,rfl,s⟩:=hrel;obtain⟨T,O⟩:∃ T,T=wr:=⟨_,rfl⟩;rw [<-O]at s ⊢;clear O;by_cases hlt:l<xs.length
  ·have t0:(0:Int)<=(l:Int):=by omega
   have t1:(l:Int)<xs.length:=by omega
   go_wp2_with fail
   go_loopw [8,10] (fun ov tv w'=>∃ t:Nat,t<=4/\tv= .int .i64 t/\Hid (OtIn W w' ov (thrL (goAt (keysE p xs) l t 0)))) (fun _ tv _=>4 - (intOf tv).toNat)
   case atStart=>exact⟨0,Nat.zero_le _,rfl,s⟩
   case round=>
    clear s;obtain⟨t,M,rfl,u⟩:=hrel;obtain⟨U,P⟩:∃ U,U=wr:=⟨_,rfl⟩;rw [<-P]at u ⊢;clear P;by_cases htl:t<4
    ·have t2:(t:Int)<4:=by omega
     go_wp2_with fail
     go_loopw [8,11] (fun ov iv w'=>∃ i:Nat,i<=xs.length/\iv= .int .i64 i/\Hid (OtIn W w' ov (thrL (goAt (keysE p xs) l t i)))) (fun _ iv _=>xs.length - (intOf iv).toNat)
     case atStart=>exact⟨0,Nat.zero_le _,rfl,u⟩
     case round=>
      clear u;obtain⟨i,hi,rfl,a⟩:=hrel;obtain⟨k,R⟩:∃ k,k=wr:=⟨_,rfl⟩;rw [<-R]at a ⊢;clear R;by_cases cf:i<xs.length
      ·have t3:(0:Int)<=(i:Int):=by omega
       have t4:(i:Int)<xs.length:=by omega
       obtain⟨g,h,j,w,ci,D,E,x,y⟩:=Z.out i cf;subst ci;have B:=ip a.out.gr _ _ D;have d2:=ip a.out.gr _ _ E;have d3:=ip a.out.gr _ _ V.out;have G:i<(keysE p xs).length:=by have:=A.out;omega
       have H:(keysE p xs)[i]=(h,j):=by rw [List.getElem?_eq_getElem G]at w;simpa using w
       have d:=ij (zq (keysE p xs) l t i G);rw [H]at d;clear w H D E;obtain⟨ao,an,ac,ch⟩:=iw a.out.row;subst ch;have cc:=iB a.out.row;subst cc;by_cases f:h=l
       ·by_cases o:j=t
        ·have c:thrL (goAt (keysE p xs) l t (i+1))=thrL (goAt (keysE p xs) l t i)++[(t:Int)]:=by rw [d.out,f,o];simp
         have n:=ij c;have r:=Y.out l t i (by omega) (by omega);have hle2:(thrL (goAt (keysE p xs) l t i)).length<=2000000:=by unfold thrL;rw [List.length_map];exact r
         have cb:(thrL (goAt (keysE p xs) l t i)).length+1<=maxLen:=by unfold maxLen;omega
         have hsz:W.heap.size<=k.heap.size:=a.out.gr.size;rw [f]at B;rw [o]at d2;clear d c r f o x y;go_wp2_with (at_builtin;refine wpList_append_lies _ rfl _ _ _ rfl W.heap.size 3 i0 _ 1 8 Tryz.underlying39 ce cj ck cl rfl (by omega) (.slice ao (thrL (goAt (keysE p xs) l t i)).length ac) (thrL (goAt (keysE p xs) l t i)).length (ints (thrL (goAt (keysE p xs) l t i))) rfl (iG a.out.row) ⟨k.heap.size,0,none⟩ 1 1 [.int .i64 (t:Int)] rfl rfl (World.news_of_block (cs:= #[.int .i64 (t:Int)]) (t:=3) (fr:=(0,0)) (heap_alloc_new k _)) (by simp [Value.oneCell']) (by omega) cb (by omega) (by simp;omega) (k.heap.size+1) (by simp) ?_;intro g8 cap8 w8 K F cd cg;have aa:=ij K;have X:Hid (W.grownBy w8 none):=iZ (iq a.out.gr) F (fun q e=>iA a.out.row q e);clear K F cd cg)
         go_roundw
         case rel=>exact⟨i+1,by omega,by go_num,⟨by rw [n.out,List.length_append];simpa [ints]using aa.out,X.out⟩⟩
         case measure=>simp [intOf];omega
        ·have c:thrL (goAt (keysE p xs) l t (i+1))=thrL (goAt (keysE p xs) l t i):=by rw [d.out];simp [o]
         have n:=ij c;have e2':((j:Int)==(t:Int))=false:=by simp;omega
         rw [f]at B;clear d c f o x y;go_wp2_with fail
         go_roundw
         case rel=>exact⟨i+1,by omega,by go_num,by rw [n.out];exact a.out⟩
         case measure=>simp [intOf];omega
       ·have c:thrL (goAt (keysE p xs) l t (i+1))=thrL (goAt (keysE p xs) l t i):=by rw [d.out];simp [f]
        have n:=ij c;have e1':((h:Int)==(l:Int))=false:=by simp;omega
        clear d c f x y;go_wp2_with fail
        go_roundw
        case rel=>exact⟨i+1,by omega,by go_num,by rw [n.out];exact a.out⟩
        case measure=>simp [intOf];omega
      ·have t4:(xs.length:Int)<=(i:Int):=by omega
       have m:Hid (goAt (keysE p xs) l t i=goAt (keysE p xs) l (t+1) 0):=si _ _ _ _ (by rw [A.out];omega);go_wp2_with fail
       go_roundw
       case rel=>exact⟨t+1,by omega,by go_num,by rw [<-m.out];exact a.out⟩
       case measure=>simp [intOf];omega
    ·have t2:(4:Int)<=(t:Int):=by omega
     have N:t=4:=by omega
     have m:Hid (goAt (keysE p xs) l t 0=goAt (keysE p xs) (l+1) 0 0):=by unfold Hid;rw [N];exact tT _ _
     clear N;go_wp2_with fail
     go_roundw
     case rel=>exact⟨l+1,by omega,by go_num,by rw [<-m.out];exact u.out⟩
     case measure=>simp [intOf];omega
  ·have t1:(xs.length:Int)<=(l:Int):=by omega
   have r:l=xs.length:=by omega
   have m:Hid (goAt (keysE p xs) l 0 0=goThrough xs.length (keysE p xs)):=by unfold Hid;rw [r];exact x8 _ _
   clear r;go_wp2_with fail
   exact HQ.out _ _ (by rw [<-m.out];exact s.out)
structure RunRead(w:World)(b:Nat)(p:List (List Ins))(xs:List Ev)(o:Out)(ao:Option Addr)(cap:Nat)(sao:Option Addr)(sc:Nat):Prop where
 prog:ProgAt w (.agg #[.slice ao p.length cap]) p
 c0:w.cell? ⟨b,0,none⟩=some (.slice ao p.length cap)
 c10:w.cell? ⟨b,10,none⟩=some (.slice sao xs.length sc)
 c11:w.cell? ⟨b,11,none⟩=some (.int .i64 o.kind)
 row:∃ base,w.ownsRow base 76 2 (.slice sao xs.length sc) xs.length (flatS o.steps)
theorem RunRead.grown{w w':World}{b:Nat}{p:List (List Ins)}{xs:List Ev}{o:Out}{c:Option Addr}{d:Nat}{f:Option Addr}{i:Nat}(h:RunRead w b p xs o c d f i)(a:w.grownBy w' none):RunRead w' b p xs o c d f i:=by
 obtain⟨base,j⟩:=h.row;exact⟨h.prog.pres (ip a),ip a _ _ h.c0,ip a _ _ h.c10,ip a _ _ h.c11,base,iC j a (fun _ e=>by cases e)⟩
theorem nT{w w':World}(h:w.drew.grownBy w' none):w.grownBy w' none:=⟨h.os,h.tape,h.output,h.size,h.block⟩
theorem ni{w:World}(n:Nat):w.grownBy (w.drewN n) none:=iH (by have:=jB w n;exact this)
def rowL(L:List Nat)(n:Nat):List Value:=L.map (fun x:Nat=>Value.int .i64 (x:Int))++List.replicate (n - L.length) (Value.int .i64 0)
theorem wV(L:List Nat)(n:Nat)(h:L.length<n):rowL (L++[0]) n=rowL L n:=by
 unfold rowL;have e:n - L.length=(n - (L++[0]).length)+1:=by simp;omega
 rw [e,List.replicate_succ];simp
theorem sW(L:List Nat)(x y n:Nat):(rowL (L++[x]) n).set L.length (.int .i64 (y:Int))=rowL (L++[y]) n:=by
 unfold rowL;have e:(L++[x]).length=(L++[y]).length:=by simp
 rw [e];simp
theorem pa(L:List Nat)(n k:Nat)(h:k<L.length):(rowL L n)[k]?=some (.int .i64 (L[k]:Int)):=by
 unfold rowL;rw [List.getElem?_append_left (by simpa using h)];simp [h]
structure LyIn(W w':World)(gl n:Nat)(L:List Nat):Prop where
 row:w'.heap[gl]?=some (.cells (rowL L n).toArray 3 (0,0))
 gr:W.grownBy w' (some gl)
theorem LyIn.grown{W w w':World}{gl n:Nat}{L:List Nat}(h:LyIn W w gl n L)(hg:w.grownBy w' none):LyIn W w' gl n L:=
 ⟨by rw [hg.block _ (Array.getElem?_eq_some_iff.1 h.row).1 (by simp)];exact h.row,il h.gr (jN hg)⟩
theorem qP{W w:World}{gl o:Nat}{u:Value}(h:W.grownBy w (some gl)):W.grownBy (w.setCell ⟨gl,o,none⟩ u) (some gl):=
 ⟨h.os,h.tape,h.output,by simpa using h.size,fun k hk hr=>by rw [Below.heap_setCell _ _ _ _ (by simpa using hr)];exact h.block k hk hr⟩
theorem LyIn.put{W w:World}{a n i:Nat}{L:List Nat}{x:Nat}(h:LyIn W w a n (L++[x]))(b:L.length=i)(y:Nat)(z:Int)(c:z=(y:Int)):LyIn W (w.setCell ⟨a,i,none⟩ (.int .i64 z)) a n (L++[y]):=by
 subst b c;refine⟨?_,qP h.gr⟩;rw [heap_setCell_same w a L.length _ _ _ h.row,<-sW L x y n];simp
theorem ny{p:List (List Ins)}{o:Out}{xs:List Ev}(hp:vProg p=true)(aY:Stood p o xs)(aT:xs.length<=500)(w:World)(b:Nat)(R:Option Addr)(T:Nat)(be:Option Addr)(sc:Nat)(hR:RunRead w b p xs o R T be sc):
  Calls Tryz.prog 57 #[.pointer (some ⟨b,0,none⟩)] w fun e w'=>∃ v,e= .returned v/\w'.ownsRow w.heap.size 3 1 v (formE p xs).length (ints (formE p xs))/\w.grownBy w' none:=by
 obtain⟨i0,bo,bC,bD,bE⟩:=info_parts nk;have F:=ij hR;have HV:=ij hp;have G:=ij aY;have bv:=iW hp;have S:=hR.c10;have q0:(xs.length:Int)<=500:=by omega
 have q1:(0:Int)<=(xs.length:Int):=by omega
 clear hR hp aY;go_enter Tryz.func57,Tryz.ntmps57
 go_upto_region 3 with (at_make;refine wpList_make_full _ rfl _ _ _ rfl w.heap.size 3 i0 _ 1 Tryz.underlying39 bo bC bD .i64 .i64 _ _ xs.length rfl rfl rfl rfl (by rw [bE];omega) (by unfold maxLen;omega) (by simp) ?_;intro A a6 az)
 have aD:A.heap[w.heap.size]?=some (.cells (List.replicate xs.length (Value.int .i64 0)).toArray 3 (0,0)):=by
  rcases a6.2 with ⟨e,_⟩ | ⟨g',cap',cur,hv,_,hh,_,_,hcs,N⟩
  ·cases e
  ·simp only [Value.slice.injEq,Option.some.injEq,Addr.mk.injEq,true_and,and_true]at hv;obtain⟨rfl,rfl⟩:=hv;rw [hh];have e1:cur.toList=List.replicate xs.length (Value.int .i64 0):=by
    have J:(madeCells #[Value.int .i64 0] (xs.length*1)).toList=List.replicate (xs.length*1) (Value.int .i64 0):=by
     apply List.ext_getElem (by simp [madeCells]);intro i h1 h2;simp only [madeCells,Array.toList_map,List.getElem_map,List.getElem_replicate,Array.toList_range,List.getElem_range];simp [Nat.mod_one]
    rw [Nat.mul_one]at J;rw [<-J];simp only [Value.cells,Nat.mul_one]at N hcs;rw [<-N,List.take_of_length_le (by simp;omega)]
   rw [<-e1]
 have HR3:Hid (RunRead A b p xs o R T be sc):=F.out.grown az;have ab:Hid (w.grownBy A none):=az;have H0:Hid (LyIn A A w.heap.size xs.length (labsE p xs 0)):=⟨by simpa [labsE,tl,rowL]using aD,ir _ _⟩;obtain⟨z,ag⟩:∃ z,z=w.heap.size:=⟨_,rfl⟩;have hgl3:z<A.heap.size:=by rw [ag];exact(Array.getElem?_eq_some_iff.1 aD).1
 have aq:Hid (∀ x v,w.cell? x=some v->∀ u,A.grownBy u (some z)->u.cell? x=some v):=fun x v hc u hu=>by
  have hx:=World.block_lt_of_cell? w _ hc;rw [World.cell?_of_block (hu.block x.block (Nat.lt_of_lt_of_le hx ab.out.size) (by simp;omega))];exact ip ab.out _ _ hc
 rw [<-ag]at H0 ⊢;have bf:=ij ag;clear a6 az aD S ag;go_wp2_with fail
 go_loopw [5] (fun iv w'=>∃ i:Nat,i<=xs.length/\iv= .int .i64 i/\Hid (LyIn A w' z xs.length (labsE p xs i))) (fun iv _=>xs.length - (intOf iv).toNat)
 case atStart=>exact⟨0,Nat.zero_le _,rfl,H0⟩
 case round=>
  clear H0;obtain⟨i,hi,rfl,B⟩:=hrel;obtain⟨Z,a9⟩:∃ Z,Z=wr:=⟨_,rfl⟩;rw [<-a9]at B ⊢;clear a9;by_cases ah:i<xs.length
  ·have t0:(0:Int)<=(i:Int):=by omega
   have t1:(i:Int)<xs.length:=by omega
   have bx:=lR p xs i hi;have H5:Hid (LyIn A Z z xs.length (labsE p xs i++[layIn (depE p) ((tl (depE p) [] (xs.take i)).take 0) xs[i]])):=by
    have e:layIn (depE p) ((tl (depE p) [] (xs.take i)).take 0) xs[i]=0:=by simp [layIn]
    unfold Hid;rw [e]
    exact⟨by rw [wV _ _ (by omega)];exact B.out.row,B.out.gr⟩
   go_wp2_with fail
   go_loopw [6] (fun kv w'=>∃ k:Nat,k<=i/\kv= .int .i64 k/\Hid (LyIn A w' z xs.length (labsE p xs i++[layIn (depE p) ((tl (depE p) [] (xs.take i)).take k) xs[i]]))) (fun kv _=>i - (intOf kv).toNat)
   case atStart=>exact⟨0,Nat.zero_le _,rfl,H5⟩
   case round=>
    clear H5 B;obtain⟨k,hk,rfl,P⟩:=hrel;obtain⟨w6,ba⟩:∃ w6,w6=wr:=⟨_,rfl⟩;rw [<-ba]at P ⊢;clear ba;by_cases bu:k<i
    ·have a5:k<xs.length:=by omega
     obtain⟨aj,a3,br⟩:=G.out.th _ (List.getElem_mem ah);obtain⟨N,a4,bt⟩:=G.out.th _ (List.getElem_mem a5);obtain⟨base,W⟩:=F.out.row;obtain⟨g,hg,s0,s1⟩:=mV W G.out.st ah;obtain⟨g',ay,r0,r1⟩:=mV W G.out.st a5;rw [hg]at ay;simp only [Option.some.injEq,Addr.mk.injEq,and_true]at ay;subst ay hg;obtain⟨X,L⟩:=Int.eq_ofNat_of_zero_le a3;obtain⟨Y,aA⟩:=Int.eq_ofNat_of_zero_le a4;have H:=ij (vL G.out bu ah);have Q:=ij (wu (depE p) (tl (depE p) [] (xs.take i)) xs[i] k (by rw [iX];simp;omega));have aW:((tl (depE p) [] (xs.take i))[k]'(by rw [iX];simp;omega)).1=xs[k]:=by
      have h1:=pm (depE p) [] (xs.take i);have h2:((tl (depE p) [] (xs.take i)).map (·.1))[k]'(by rw [h1];simp;omega)=(xs.take i)[k]'(by simp;omega):=by congr 1
      simpa using h2
     rw [aW]at Q;have aB:(labsE p xs i)[k]'(by omega)=((tl (depE p) [] (xs.take i))[k]'(by rw [iX];simp;omega)).2:=by simp [labsE]
     have bh:=ij aB;have a0:=qW p (xs.take i) xs[i] k;have hcur':layIn (depE p) ((tl (depE p) [] (xs.take i)).take k) xs[i]<=500:=by simp at a0;omega
     have hlk5:(labsE p xs i)[k]'(by omega)<=500:=by
      rw [aB];have:=lC (depE p) (xs.take i) [] 0 (by simp) k _ (List.getElem?_eq_getElem (by rw [iX];simp;omega));omega
     have a7:vIns (insAt p xs[i].t (X:Int)) (codeOf p xs[i].t).length=true:=jT HV.out aj (by simp;omega);have a8:vIns (insAt p xs[k].t (Y:Int)) (codeOf p xs[k].t).length=true:=jT HV.out N (by simp;omega);have av:=rL a7;have aw:=rL a8;have aL:=ij (tH (i:=insAt p xs[k].t (Y:Int)) (j:=insAt p xs[i].t (X:Int)) aw.1 aw.2.2.1 av.1 av.2.2.1);rw [L,aA]at H;rw [<-aL.out]at H;have C:∀ x v,w.cell? x=some v->w6.cell? x=some v:=fun x v hc=>aq.out x v hc w6 P.out.gr
     have aH:=C _ _ s0;have am:=C _ _ s1;have aG:=C _ _ r0;have ak:=C _ _ r1;rw [L]at am;rw [aA]at ak;have c0:=C _ _ F.out.c0;have S:=C _ _ F.out.c10;have aQ:=C _ _ F.out.c11;have aP:Hid (ProgAt w6 (.agg #[.slice R p.length T]) p):=F.out.prog.pres C;have aM:=ij (fun(u:World) (hu:w6.grownBy u none)=>xM u (.agg #[.slice R p.length T]) (aP.out.pres (ip hu)) bv.2 xs[k].t Y xs[i].t X N (by omega) aj (by omega) (jx (jf HV.out N)) (jx (jf HV.out aj)));clear s0 s1 r0 r1 W av aw a7 a8 C a0 aB aW a3 br a4 bt L aA aL aP;generalize bA:xs[i]=xi at*;generalize bB:xs[k]=xk at*;clear bA bB;generalize insAt p xk.t (Y:Int)=ik at*;generalize insAt p xi.t (X:Int)=ii at*;have u0:(0:Int)<=(k:Int):=by omega
     have u1:(k:Int)<(i:Int):=by omega
     have u2:(k:Int)<(xs.length:Int):=by omega
     go_upto_region 9 with fail
     refine iz (fun u=>u.cell? ⟨b,0,none⟩=some (.slice R p.length T)/\u.cell? ⟨b,10,none⟩=some (.slice (some ⟨g,0,none⟩) xs.length sc)/\u.cell? ⟨g,k*2,none⟩=some (.int .i64 (xk.t:Int))/\u.cell? ⟨g,k*2+1,none⟩=some (.int .i64 (Y:Int))/\u.cell? ⟨g,i*2,none⟩=some (.int .i64 (xi.t:Int))/\u.cell? ⟨g,i*2+1,none⟩=some (.int .i64 (X:Int))) 19 (by kernel_rfl) (by kernel_rfl) ⟨c0,S,aG,ak,aH,am⟩ ?_;intro d;refine ie 0 ?va0 rfl (by kernel_rfl) (fun _ _ _ h=>h) (by rfl) ?ya0 d ?_
     case ya0=>(rintro u ⟨f,l,m,n,r,s⟩;go_simp;try rfl)
     simp only [Act.put,List.setIfInBounds_toArray];refine ie 1 ?va1 rfl (by kernel_rfl) (fun _ _ _ h=>h) (by rfl) ?ya1 d ?_
     case ya1=>(rintro u ⟨f,l,m,n,r,s⟩;go_simp;try rfl)
     simp only [Act.put];refine ie 2 ?va2 rfl (by kernel_rfl) (fun _ _ _ h=>h) (by rfl) ?ya2 d ?_
     case ya2=>(rintro u ⟨f,l,m,n,r,s⟩;go_simp;try rfl)
     simp only [Act.put];refine ie 3 ?va3 rfl (by kernel_rfl) (fun _ _ _ h=>h) (by rfl) ?ya3 d ?_
     case ya3=>(rintro u ⟨f,l,m,n,r,s⟩;go_simp;try rfl)
     simp only [Act.put];refine ie 4 ?va4 rfl (by kernel_rfl) (fun _ _ _ h=>h) (by rfl) ?ya4 d ?_
     case ya4=>(rintro u ⟨f,l,m,n,r,s⟩;go_simp;try rfl)
     simp only [Act.put];refine ie 5 ?va5 rfl (by kernel_rfl) (fun _ _ _ h=>h) (by rfl) ?ya5 d ?_
     case ya5=>(rintro u ⟨f,l,m,n,r,s⟩;go_simp;try rfl)
     simp only [Act.put];refine ie 6 ?va6 rfl (by kernel_rfl) (fun _ _ _ h=>h) (by rfl) ?ya6 d ?_
     case ya6=>(rintro u ⟨f,l,m,n,r,s⟩;go_simp;try rfl)
     simp only [Act.put];refine ie 7 ?va7 rfl (by kernel_rfl) (fun _ _ _ h=>h) (by rfl) ?ya7 d ?_
     case ya7=>(rintro u ⟨f,l,m,n,r,s⟩;go_simp;try rfl)
     simp only [Act.put];refine ie 8 ?va8 rfl (by kernel_rfl) (fun _ _ _ h=>h) (by rfl) ?ya8 d ?_
     case ya8=>(rintro u ⟨f,l,m,n,r,s⟩;go_simp;try rfl)
     simp only [Act.put];refine ie 9 ?va9 rfl (by kernel_rfl) (fun _ _ _ h=>h) (by rfl) ?ya9 d ?_
     case ya9=>(rintro u ⟨f,l,m,n,r,s⟩;go_simp;try rfl)
     simp only [Act.put];refine ie 10 ?va10 rfl (by kernel_rfl) (fun _ _ _ h=>h) (by rfl) ?ya10 d ?_
     case ya10=>(rintro u ⟨f,l,m,n,r,s⟩;go_simp;try rfl)
     simp only [Act.put];refine ie 11 ?va11 rfl (by kernel_rfl) (fun _ _ _ h=>h) (by rfl) ?ya11 d ?_
     case ya11=>(rintro u ⟨f,l,m,n,r,s⟩;go_simp;try rfl)
     simp only [Act.put];refine ie 12 ?va12 rfl (by kernel_rfl) (fun _ _ _ h=>h) (by rfl) ?ya12 d ?_
     case ya12=>(rintro u ⟨f,l,m,n,r,s⟩;go_simp;try rfl)
     simp only [Act.put];refine ie 13 ?va13 rfl (by kernel_rfl) (fun _ _ _ h=>h) (by rfl) ?ya13 d ?_
     case ya13=>(rintro u ⟨f,l,m,n,r,s⟩;go_simp;try rfl)
     simp only [Act.put];refine ie 14 ?va14 rfl (by kernel_rfl) (fun _ _ _ h=>h) (by rfl) ?ya14 d ?_
     case ya14=>(rintro u ⟨f,l,m,n,r,s⟩;go_simp;try rfl)
     simp only [Act.put];refine ie 15 ?va15 rfl (by kernel_rfl) (fun _ _ _ h=>h) (by rfl) ?ya15 d ?_
     case ya15=>(rintro u ⟨f,l,m,n,r,s⟩;go_simp;try rfl)
     simp only [Act.put];refine ie 16 ?va16 rfl (by kernel_rfl) (fun _ _ _ h=>h) (by rfl) ?ya16 d ?_
     case ya16=>(rintro u ⟨f,l,m,n,r,s⟩;go_simp;try rfl)
     simp only [Act.put];refine ie 17 ?va17 rfl (by kernel_rfl) (fun _ _ _ h=>h) (by rfl) ?ya17 d ?_
     case ya17=>(rintro u ⟨f,l,m,n,r,s⟩;go_simp;try rfl)
     simp only [Act.put];refine iu (i:=18) rfl (by kernel_rfl) (by kernel_rfl) (by rfl) ?_;intro K18 aV;have aN:=ij aV;clear aV;go_simp;refine(aM.out _ (iy (ir _ _))).mono ?_;rintro e O ⟨rfl,a1⟩;have E:Hid (w6.grownBy O none):=nT a1;refine aN.out _ _ ⟨ip E.out _ _ c0,ip E.out _ _ S,ip E.out _ _ aG,ip E.out _ _ ak,ip E.out _ _ aH,ip E.out _ _ am⟩ ?_;clear aN a1;try simp only [Act.put,List.setIfInBounds_toArray]
     refine iF rfl (by kernel_rfl) (by kernel_rfl) (by rfl) ?_;go_simp;have bb:=ip E.out _ _ aQ;have ac:=ij (P.out.grown E.out);clear d c0 S aQ aG ak aH am aM P;generalize bk:(xk.t==xi.t || depR ik ii)=dd at*;clear bk;obtain⟨I,ax⟩:∃ I:Bool,I=(decide (o.kind=1) && decide (i+1=xs.length)):=⟨_,rfl⟩;rw [<-ax]at H;have aa:=ij ax;clear ax;go_upto_region 10 with fail
     go_cut [59] (fun q w'=>q= .bool I/\w'=O)
     case first=>
      by_cases J:o.kind=1
      ·rw [J]at bb;by_cases e1:i+1=xs.length
       ·have e3:(xs.length:Int) - 1=(i:Int):=by omega
        have U:I=true:=by rw [aa.out];simp [e1,J]
        go_wp2_with fail
        all_goals first | (go_meet;exact⟨by rw [U],rfl⟩) | (exfalso;omega)
       ·have U:I=false:=by rw [aa.out];simp [e1]
        have e4:((i:Int)==(xs.length:Int) - 1)=false:=by simp;omega
        go_wp2_with fail
        all_goals first | (go_meet;exact⟨by rw [U],rfl⟩) | (exfalso;omega)
      ·have U:I=false:=by rw [aa.out];simp [J]
       have hb2:(o.kind==1)=false:=by simpa using J
       go_wp2_with fail
       all_goals first | (go_meet;exact⟨by rw [U],rfl⟩) | (exfalso;omega)
     case rest=>
     obtain⟨rfl,aE⟩:=hcut;have aF:=aE.symm;subst aF;obtain⟨D,hD⟩:∃ D:Bool,D=depE p xk xi:=⟨_,rfl⟩;rw [<-hD]at H Q;clear hD;go_upto_if 59 with fail
     go_cut [7] (fun q w'=>q= .bool D/\w'=O)
     case first=>
      cases I with
      | true=>
       have ar:D=true:=by rw [H.out];rfl
       go_wp2_with fail
       go_meet
       exact⟨by rw [ar],rfl⟩
      | false=>
       have ar:D=dd:=by rw [H.out];rfl
       go_wp2_with fail
       go_meet
       exact⟨by rw [ar],rfl⟩
     case rest=>
     obtain⟨rfl,aE⟩:=hcut;have aF:=aE.symm;subst aF;clear bb aa H;rw [<-bh.out]at Q;have bq:k<(labsE p xs i).length:=by omega
     have HRS:=ij (fun y:Nat=>sW (labsE p xs i) (layIn (depE p) ((tl (depE p) [] (xs.take i)).take k) xi) y xs.length);have ai:=ac.out.row;have ck:O.cell? ⟨z,k,none⟩=some (.int .i64 ((labsE p xs i)[k]:Int)):=by
      simp only [World.cell?,ai];have:=pa (labsE p xs i++[layIn (depE p) ((tl (depE p) [] (xs.take i)).take k) xi]) xs.length k (by simp;omega);rw [List.getElem_append_left bq]at this;simpa using this
     have ci:O.cell? ⟨z,i,none⟩=some (.int .i64 (layIn (depE p) ((tl (depE p) [] (xs.take i)).take k) xi:Int)):=by
      simp only [World.cell?,ai];have:=pa (labsE p xs i++[layIn (depE p) ((tl (depE p) [] (xs.take i)).take k) xi]) xs.length i (by simp;omega);have e:(labsE p xs i++[layIn (depE p) ((tl (depE p) [] (xs.take i)).take k) xi])[i]'(by simp;omega)=layIn (depE p) ((tl (depE p) [] (xs.take i)).take k) xi:=by
       rw [List.getElem_append_right (by omega)];simp
      rw [e]at this;simpa using this
     have fi:O.frozen? ⟨z,i,none⟩=false:=by simp [World.frozen?,ai]
     clear ai;generalize bw:(labsE p xs i)[k]=lk at*;generalize hc:layIn (depE p) ((tl (depE p) [] (xs.take i)).take k) xi=c at*;generalize aZ:layIn (depE p) ((tl (depE p) [] (xs.take i)).take (k+1)) xi=c1 at*;have ap:=ij aZ;clear bw hc aZ;have v0:(lk:Int)<=500:=by omega
     have v1:(c:Int)<=500:=by omega
     cases D with
     | false=>
      have V:c1=c:=by have:=Q.out;simpa using this
      go_wp2_with fail
      go_quiet (fail)
      go_wp2_with fail
      go_roundw
      case rel=>exact⟨k+1,by omega,by go_num,by rw [ap.out,V];exact ac.out.grown (ni _)⟩
      case measure=>simp [intOf];omega
     | true=>
      have hcm:c1=max c (lk+1):=by have:=Q.out;simpa using this
      by_cases hle:c<=lk
      ·have v2:(c:Int)<=(lk:Int):=by omega
       have V:c1=lk+1:=by omega
       go_wp2_with fail
       go_quiet (fail)
       go_wp2_with fail
       go_roundw
       case rel=>exact⟨k+1,by omega,by go_num,by rw [ap.out,V];exact LyIn.put (ac.out.grown (ni _)) bx (lk+1) _ (by omega)⟩
       case measure=>simp [intOf];omega
      ·have v2:(lk:Int)<(c:Int):=by omega
       have V:c1=c:=by omega
       go_wp2_with fail
       go_quiet (fail)
       go_wp2_with fail
       go_roundw
       case rel=>exact⟨k+1,by omega,by go_num,by rw [ap.out,V];exact ac.out.grown (ni _)⟩
       case measure=>simp [intOf];omega
    ·have u1:(i:Int)<=(k:Int):=by omega
     have L:k=i:=by omega
     have bi:Hid (labsE p xs (i+1)=labsE p xs i++[layIn (depE p) ((tl (depE p) [] (xs.take i)).take k) xs[i]]):=by unfold Hid;rw [L];exact ua p xs i ah
     clear L;go_wp2_with fail
     go_roundw
     case rel=>exact⟨i+1,by omega,by go_num,by rw [bi.out];exact P.out⟩
     case measure=>simp [intOf];omega
  ·have t1:(xs.length:Int)<=(i:Int):=by omega
   have a2:i=xs.length:=by omega
   have bg:=ij a2;clear a2;go_upto_if 21 with fail
   refine wp_cond_false rfl ?_;refine wp_exit ?_;refine ‹∀ a w,Code.wp Tryz.prog _ _ a w->_› _ _ ?_;obtain⟨base,W⟩:=F.out.row;refine AO (p:=p) aT (aq.out _ _ F.out.c10 Z B.out.gr) ?_ ?_
   ·intro j K;obtain⟨g,hg,s0,s1⟩:=mV W G.out.st K;have bp:j<(labsE p xs xs.length).length:=by rw [lR _ _ _ (Nat.le_refl _)];exact K
    have aj:=(G.out.th _ (List.getElem_mem K)).1;refine⟨g,(labsE p xs xs.length)[j],xs[j].t,?_,hg,?_,aq.out _ _ s0 Z B.out.gr,Nat.le_trans (Aw p xs j K) aT,by omega⟩
    ·rw [List.getElem?_eq_getElem (by rw [np];exact K),Au p xs j K]
    ·have M:=B.out.row;rw [bg.out]at M;simp only [World.cell?,M];have:=pa (labsE p xs xs.length) xs.length j bp;simpa using this
   ·intro z0 z1 z3 z4 z5 z6 z7 z8 z9 z10 z11 z12 z13 z14 z15 z16 z17 z18 z19 z20 z21 z22 z23 z24 z25 z26 z27 z28 z29 z30 z31 z32 z33 z34 z35 z36 z37 z38 z39 z40 z41 z42 z43 z44 z45 z46 z47 z48 z49 z50 z51 z52 z53 z54 z55 z56 z57 z58 z59 z60 z61 z62 z63 z64 z65 z66 z67 z68 z69 z70 z71 z72 z73 z74 z75 z76 z77 z78 z79 z80 z81 z82 z83 z84 z85 z86 z87 z88 z89 z90 z91 z92 z93 z94 z95 z96 z97 z98 z99 z100 z101 z102 z103 z104 z105 z106 z107 z108 z109 z110 z111 z112 z113 z114 z115 z116 v w' hO;have HO:=ij hO;clear hO;go_ret;refine⟨v,rfl,?_,?_⟩
    ·have hf:=qO (p:=p) (xs:=xs) (fun e he=>by have:=(G.out.th e he).1;omega);have M:=HO.out.row;unfold thrL at M;rw [<-hf]at M;exact iK M (by have:=B.out.gr.size;have:=ab.out.size;omega)
    ·exact il (mp ab.out B.out.gr (by have:=bf.out;omega)) HO.out.gr
theorem ly{w w':World}(h:w.drew.grownBy w' none):w.grownBy w' none:=⟨h.os,h.tape,h.output,h.size,h.block⟩
theorem kY(p:List (List Ins))(l:List Int):(runS p l).steps.length<=l.length:=by
 obtain⟨m,h1,h2,a,_⟩:=lf p l 0 St.zero [];unfold runS;simp at a;omega
theorem tC{p:List (List Ins)}{s:List Int}(a:checkRunN p s=0):vProg p=true/\s.length<=500:=by
 unfold checkRunN at a;by_cases b:vProg p=true
 ·by_cases c:s.length<=500
  ·exact⟨b,c⟩
  ·simp [b,c]at a
 ·simp [b]at a
theorem lB{p:List (List Ins)}(f:vProg p=true)(s:List Int)(h5:s.length<=500){base:Nat}{u:World}{rv:Value}(i:ResAt base u (runS p s) p.length rv)(w:World)(j:u.grownBy w none)(pv:Value)(h:ProgAt w pv p):
  Calls Tryz.prog 56 #[pv,rv] w fun e w'=>∃ v,e= .returned v/\w'.ownsRow w.heap.size 3 1 v (formS p (runS p s)).length (ints (formS p (runS p s)))/\w.grownBy w' none:=by
 obtain⟨xs,b⟩:=kZ f s;obtain⟨sv,gv,rfl,c,l⟩:=i;obtain⟨x1,x2,x3,rfl⟩:=iw c;obtain⟨n,o,q,rfl⟩:=iw l;have k:(runS p s).steps.length=xs.length:=by rw [b.st];simp
 have m:=iB c;subst m;have hle:=kY p s;have d:=iC c j (fun _ e=>by cases e);rw [k]at d ⊢;have:=ws f b (by omega) w pv h base x1 x3 d ((runS p s).st.vars 0) ((runS p s).st.vars 1) ((runS p s).st.vars 2) ((runS p s).st.vars 3) n o q;unfold formS;rw [b.ev];exact this
def Formd(p:List (List Ins))(s:List Int)(w:World)(e:Ending)(w':World):Prop:=
 w.grownBy w' none/\
 ((checkRunN p s=0/\∃ v,e= .returned (.tuple #[v,.int .i64 0])/\w'.ownsRow w.heap.size 3 1 v (formS p (runS p s)).length (ints (formS p (runS p s))))\/
  (checkRunN p s≠0/\e= .returned (.tuple #[.slice none 0 0,.int .i64 (checkRunN p s)])))
theorem BD(p:List (List Ins))(s:List Int)(pv sv:Value)(w:World)(W:ShpAt w)(z:ProgAt w pv p)(y:IntsAt w.heap.size w sv s):
  Calls Tryz.prog 28 #[pv,sv] w (Formd p s w):=by
 have ag:=ij W;have q:=ij z;have HI:=ij y;obtain⟨d,f,rfl⟩:=z.form;obtain⟨so,sc,rfl⟩:=y.form;clear W z y;go_enter Tryz.func28,Tryz.ntmps28
 go_wp2_with fail
 have A:∀ a b,w.grownBy ((w.alloc a).alloc b) none:=fun a b=>iq (iq (ir _ _))
 refine(la p [s] _ _ _ (ag.out.pres (ip (A _ _))) (q.out.pres (ip (A _ _))) (ns (by simp)) (by simp)).mono ?_;rw [kQ];rintro e j ⟨rfl,B⟩;have l:Hid (w.grownBy j none):=il (A _ _) B;have X:j.heap[w.heap.size]?=some (.cells #[.slice d p.length f] 37 (0,0)):=by
  rw [B.block w.heap.size (by simp;omega) (by simp),Below.heap_alloc _ _ _ (by simp)];exact heap_alloc_new w _
 have c0:j.cell? ⟨w.heap.size,0,none⟩=some (.slice d p.length f):=by simp [World.cell?,X]
 clear X B;by_cases c:checkRunN p s=0
 ·have k:=ij c;obtain⟨Z,M⟩:=tC c;have r:=ij Z;rw [c];clear c Z;go_wp2_with fail
  refine iz (fun u=>u.cell? ⟨w.heap.size,0,none⟩=some (.slice d p.length f)) 7 (by kernel_rfl) (by kernel_rfl) c0 ?_;intro x;refine ie 0 ?va0 rfl (by kernel_rfl) (fun _ _ _ h=>h) (by rfl) ?ya0 x ?_
  case ya0=>(intro u E;go_simp;try rfl)
  simp only [Act.put,List.setIfInBounds_toArray];refine ie 1 ?va1 rfl (by kernel_rfl) (fun _ _ _ h=>h) (by rfl) ?ya1 x ?_
  case ya1=>(intro u E;go_simp;try rfl)
  simp only [Act.put];refine ie 3 ?va3 rfl (by kernel_rfl) (fun _ _ _ h=>h) (by rfl) ?ya3 x ?_
  case ya3=>(intro u E;go_simp;try rfl)
  simp only [Act.put];refine iu (i:=2) rfl (by kernel_rfl) (by kernel_rfl) (by rfl) ?_;intro K2 R;have J:=ij R;clear R;go_simp;refine(uV r.out (q.out.pres (ip (iy l.out)))).mono ?_;rintro e F ⟨m,rfl,U,Y⟩;have HM:=ij U;have I:Hid (j.grownBy F none):=ly Y;have n:Hid (w.grownBy F none):=il l.out I.out;have O:F.cell? ⟨w.heap.size,0,none⟩=some (.slice d p.length f):=ip I.out _ _ c0;refine J.out _ _ O ?_;clear J U Y;try simp only [Act.put,List.setIfInBounds_toArray]
  refine iu (i:=4) rfl (by kernel_rfl) (by kernel_rfl) (by rfl) ?_;intro K4 S;have K:=ij S;clear S;go_simp;refine(qo r.out HM.out (Nat.le_refl _) ((HI.out.pres (ip n.out)).mono n.out.size) M).mono ?_;rintro e G ⟨rv,rfl,V,C⟩;have HR:=ij V;have o:Hid (w.grownBy G none):=il n.out C;have P:G.cell? ⟨w.heap.size,0,none⟩=some (.slice d p.length f):=ip C _ _ O;refine K.out _ _ P ?_;clear K V C;try simp only [Act.put,List.setIfInBounds_toArray]
  refine iu (i:=5) rfl (by kernel_rfl) (by kernel_rfl) (by rfl) ?_;intro K5 T;have L:=ij T;clear T;go_simp;refine(lB r.out s M HR.out G (ir _ _) _ (q.out.pres (ip o.out))).mono ?_;rintro e w4 ⟨fv,rfl,t,D⟩;obtain⟨f1,f2,f3,rfl⟩:=iw t;have HF:=ij t;have ac:Hid (w.grownBy w4 none):=il o.out D;have Q:w4.cell? ⟨w.heap.size,0,none⟩=some (.slice d p.length f):=ip D _ _ P;refine L.out _ _ Q ?_;clear L t D;try simp only [Act.put,List.setIfInBounds_toArray]
  refine ie 6 ?vb6 rfl (by kernel_rfl) (fun _ _ _ h=>h) (by rfl) ?yb6 Q ?_
  case yb6=>(intro u E;go_simp;try rfl)
  simp only [Act.put,List.setIfInBounds_toArray];refine iF rfl (by kernel_rfl) (by kernel_rfl) (by rfl) ?_;go_simp;go_wp2_with fail
  exact bodyPost_ret (v:= .tuple #[.slice f1 f2 f3,.int .i64 0]) (by simp [results,Tryz.results28,go_sem]) rfl ⟨ac.out,Or.inl ⟨k.out,_,rfl,iK HF.out o.out.size⟩⟩
 ·have k:=ij c;have hne:(checkRunN p s !=0)=true:=by simpa using c
  clear c;generalize N:checkRunN p s=e at*;have H:=ij N;clear N;go_wp2_with fail
  exact bodyPost_ret (v:= .tuple #[.slice none 0 0,.int .i64 e]) (by simp [results,Tryz.results28,go_sem]) rfl ⟨l.out,Or.inr ⟨by rw [H.out];exact k.out,by rw [H.out]⟩⟩
theorem uU(w:World):Like w w:=⟨rfl,rfl,rfl,rfl⟩
theorem qZ{w' w:World}(h:Like w' w)(n:Nat):Like (w'.drewN n) w:=by
 obtain⟨a,b,c,d⟩:=h;exact⟨a,b,c,d⟩
theorem xT(l m:List Int)(v u:Value)(w:World)(E:IntsAt w.heap.size w v l)(F:IntsAt w.heap.size w u m)(hln:l.length<=9223372036854775806):
  Calls Tryz.prog 60 #[v,u] w fun e w'=>e= .returned (.bool (l==m))/\Like w' w:=by
 obtain⟨ao,cap,rfl,hcap,hc⟩:=E;obtain⟨bo,dap,rfl,hdap,p⟩:=F;by_cases q:l.length=m.length
 ·have C:=ij hc;have D:=ij p;clear hc p;have G:(l.length:Int)=m.length:=by omega
  have H:((l.length:Int) !=(m.length:Int))=false:=by simp;omega
  have s:=ij q;go_enter Tryz.func60,Tryz.ntmps60
  clear q G;go_wp2_with fail
  go_loopw [13] (fun i w'=>∃ k:Nat,k<=l.length/\i= .int .i64 k/\Hid (Like w' w)/\Hid (l.take k=m.take k)) (fun i _=>l.length - (intOf i).toNat)
  case atStart=>exact⟨0,Nat.zero_le _,rfl,ij (uU _),by simp [Hid]⟩
  case round=>
   obtain⟨k,hk,rfl,f,r⟩:=hrel;obtain⟨d,J⟩:∃ d,d=wr:=⟨_,rfl⟩;subst J;by_cases z:k<l.length
   ·have A:k<m.length:=by have:=s.out;omega
    obtain⟨g,o,rfl,_,c0⟩:=C.out k z;obtain⟨g2,K,rfl,_,c1⟩:=D.out k A;have n:∀ a,d.cell? a=w.cell? a:=fun a=>by simp [World.cell?,f.out.1]
    have d0:d.cell? ⟨g,o+k,none⟩=some (.int .i64 l[k]):=by rw [n];exact c0
    have d1:d.cell? ⟨g2,K+k,none⟩=some (.int .i64 m[k]):=by rw [n];exact c1
    have hk0:(0:Int)<=(k:Int):=by omega
    have hk1:(k:Int)<l.length:=by omega
    have hk2:(k:Int)<m.length:=by omega
    have h:Hid (l.take (k+1)=l.take k++[l[k]]):=List.take_succ_eq_append_getElem z;have j:Hid (m.take (k+1)=m.take k++[m[k]]):=List.take_succ_eq_append_getElem A;clear n c0 c1;by_cases b:l[k]=m[k]
    ·have I:(l[k] !=m[k])=false:=by simpa using b
     have B:Hid (l.take (k+1)=m.take (k+1)):=by unfold Hid;rw [h.out,j.out,r.out,b]
     clear b h j;generalize l[k]=x at*;generalize m[k]=y at*;go_wp2_with fail
     go_quiet (fail)
     go_wp2_with fail
     go_roundw
     case rel=>exact⟨k+1,by omega,by go_num,ij (qZ f.out _),B⟩
     case measure=>simp [intOf];omega
    ·have I:(l[k] !=m[k])=true:=by simpa using b
     have c:Hid ((l==m)=false):=by
      unfold Hid;simp only [beq_eq_false_iff_ne];intro e;apply b;simp [e]
     clear b h j;generalize l[k]=x at*;generalize m[k]=y at*;go_wp2_with fail
     go_quiet (fail)
     go_wp2_with fail
     go_ret;exact⟨by rw [c.out];rfl,qZ f.out _⟩
   ·have c:Hid ((l==m)=true):=by
     unfold Hid;have t:=r.out;rw [List.take_of_length_le (by omega),List.take_of_length_le (by have:=s.out;omega)]at t;simpa using t
    have q2:(l.length:Int)<=(k:Int):=by omega
    go_wp2_with fail
    go_ret;exact⟨by rw [c.out];rfl,f.out⟩
 ·have c:Hid ((l==m)=false):=by
   unfold Hid;simp only [beq_eq_false_iff_ne];intro e;exact q (by rw [e])
  have H:((l.length:Int) !=(m.length:Int))=true:=by simp;omega
  clear hc p;go_enter Tryz.func60,Tryz.ntmps60
  go_wp2_with fail
  go_ret;exact⟨by rw [c.out];rfl,uU _⟩
theorem wx{W:World}{e f:Option Addr}{a b:List Int}{c d:Nat}{t:TypeId}{g:Nat}(i:W.heap.size=g):ListsAt (W.alloc (.cells #[.slice e a.length c,.slice f b.length d] t)) (.slice (some ⟨g,0,none⟩) 2 2) [a,b]:=by
 subst i;have h:=heap_alloc_new W (.cells #[.slice e a.length c,.slice f b.length d] t);refine⟨W.heap.size,0,2,rfl,fun k hk=>?_⟩;have j:k=0\/k=1:=by simp at hk;omega
 rcases j with rfl | rfl
 ·exact⟨e,c,by simp only [World.cell?,h];rfl⟩
 ·exact⟨f,d,by simp only [World.cell?,h];rfl⟩
theorem rU{p:List (List Ins)}{a b:List Int}(c:checkRunsN p [a,b]=0):vProg p=true/\a.length<=500/\b.length<=500:=by
 unfold checkRunsN at c;by_cases d:vProg p=true
 ·by_cases e:a.length<=500
  ·by_cases f:b.length<=500
   ·exact⟨d,e,f⟩
   ·simp [d,e,f]at c
  ·simp [d,e]at c
 ·simp [d]at c
def sameS(p:List (List Ins))(a b:List Int):Bool:=likeV (runS p a) (runS p b) && (formS p (runS p a)==formS p (runS p b))
def Samed(p:List (List Ins))(a b:List Int)(w:World)(e:Ending)(w':World):Prop:=
 w.grownBy w' none/\((checkRunsN p [a,b]=0/\e= .returned (.tuple #[.bool (sameS p a b),.int .i64 0]))\/(checkRunsN p [a,b]≠0/\e= .returned (.tuple #[.bool false,.int .i64 (checkRunsN p [a,b])])))
theorem AX(p:List (List Ins))(a b:List Int)(pv av bv:Value)(w:World)(hS:ShpAt w)(C:ProgAt w pv p)(hI:IntsAt w.heap.size w av a)(hJ:IntsAt w.heap.size w bv b):
  Calls Tryz.prog 34 #[pv,av,bv] w (Samed p a b w):=by
 have bq:=ij hS;have HP:=ij C;have HI:=ij hI;have HJ:=ij hJ;obtain⟨d,f,rfl⟩:=C.form;obtain⟨so,sc,rfl⟩:=hI.form;obtain⟨sp,sd,rfl⟩:=hJ.form;clear hS C hI hJ;go_enter Tryz.func34,Tryz.ntmps34
 go_wp2_with fail
 have az:∀ x y,w.grownBy ((w.alloc x).alloc y) none:=fun x y=>iq (iq (ir _ _))
 refine(la p [a,b] _ _ _ (bq.out.pres (ip (az _ _))) (HP.out.pres (ip (az _ _))) (wx (by simp)) (by simp)).mono ?_;rintro e w1 ⟨rfl,aA⟩;have ap:Hid (w.grownBy w1 none):=il (az _ _) aA;have j:w1.heap[w.heap.size]?=some (.cells #[.slice d p.length f] 37 (0,0)):=by
  rw [aA.block w.heap.size (by simp;omega) (by simp),Below.heap_alloc _ _ _ (by simp)];exact heap_alloc_new w _
 have c0:w1.cell? ⟨w.heap.size,0,none⟩=some (.slice d p.length f):=by simp [World.cell?,j]
 clear j aA;by_cases B:checkRunsN p [a,b]=0
 ·have R:=ij B;obtain⟨hv,h5,h6⟩:=rU B;have F:=ij hv;rw [B];clear B hv;go_wp2_with fail
  refine(uV F.out (HP.out.pres (ip ap.out))).mono ?_;rintro e w2 ⟨m,rfl,hM,N⟩;have HM:=ij hM;have S:Hid (w.grownBy w2 none):=il ap.out N;have c2:=ip N _ _ c0;clear hM N c0;go_wp2_with fail
  refine(qo F.out HM.out (Nat.le_refl _) ((HI.out.pres (ip S.out)).mono S.out.size) h5).mono ?_;rintro e w3 ⟨rv,rfl,hR,O⟩;have aI:Hid (w.grownBy w3 none):=il S.out O;have HR:=ij hR;have c3:=ip O _ _ c2;have bp:Hid (MachAt w2.heap.size w3 m p):=HM.out.grown' (Nat.le_refl _) O;have bA:=O.size;obtain⟨sv,gv,rfl,P,Q⟩:=hR;obtain⟨x1,x2,x3,rfl⟩:=iw P;obtain⟨o,q,r,rfl⟩:=iw Q;clear O c2 P Q;have bl:Hid (IntsAt w2.heap.size w3 (.slice sp b.length sd) b):=(HJ.out.pres (ip aI.out)).mono S.out.size;go_wp2_with fail
  refine(qo F.out bp.out bA bl.out h6).mono ?_;rintro e c ⟨rv,rfl,a8,ai⟩;have aq:Hid (w.grownBy c none):=il aI.out ai;have bh:=ij ai;have aQ:=ij a8;have c4:=ip ai _ _ c3;obtain⟨sv,gv,rfl,P,Q⟩:=a8;obtain⟨z1,s,t,rfl⟩:=iw P;obtain⟨k,l,n,rfl⟩:=iw Q;clear ai c3 P Q;have bn:=ij (fun(w:World) (h:w3.grownBy w none) (C:ProgAt w (.agg #[.slice d p.length f]) p)=>lB F.out a h5 HR.out w h (.agg #[.slice d p.length f]) C);have bo:=ij (fun(w:World) (h:c.grownBy w none) (C:ProgAt w (.agg #[.slice d p.length f]) p)=>lB F.out b h6 aQ.out w h (.agg #[.slice d p.length f]) C);have aR:Hid (sameS p a b=(likeV (runS p a) (runS p b) && (formS p (runS p a)==formS p (runS p b)))):=rfl;have bg:Hid ((formS p (runS p a)).length<=500):=by
   unfold Hid formS;rw [kt];obtain⟨xs,ba⟩:=kZ F.out a;rw [ba.ev];have h1:=kY p a;rw [ba.st]at h1;simp at h1;omega
  clear HR aQ;generalize bx:runS p a=oa at*;generalize bz:runS p b=ob at*;clear bx bz;go_upto_region 6 with fail
  have am:Hid (((c.alloc (.cells #[.int .i64 oa.kind,.int .i64 oa.thread,.int .i64 oa.at_,.slice x1 x2 x3,.int .i64 (oa.st.vars 0),.int .i64 (oa.st.vars 1),.int .i64 (oa.st.vars 2),.int .i64 (oa.st.vars 3),.slice o q r] 31)).alloc (.cells #[.int .i64 ob.kind,.int .i64 ob.thread,.int .i64 ob.at_,.slice z1 s t,.int .i64 (ob.st.vars 0),.int .i64 (ob.st.vars 1),.int .i64 (ob.st.vars 2),.int .i64 (ob.st.vars 3),.slice k l n] 31)).heap[c.heap.size]?=some (.cells #[.int .i64 oa.kind,.int .i64 oa.thread,.int .i64 oa.at_,.slice x1 x2 x3,.int .i64 (oa.st.vars 0),.int .i64 (oa.st.vars 1),.int .i64 (oa.st.vars 2),.int .i64 (oa.st.vars 3),.slice o q r] 31)):=by
   unfold Hid;rw [Below.heap_alloc _ _ _ (by simp)];exact heap_alloc_new _ _
  have an:Hid (((c.alloc (.cells #[.int .i64 oa.kind,.int .i64 oa.thread,.int .i64 oa.at_,.slice x1 x2 x3,.int .i64 (oa.st.vars 0),.int .i64 (oa.st.vars 1),.int .i64 (oa.st.vars 2),.int .i64 (oa.st.vars 3),.slice o q r] 31)).alloc (.cells #[.int .i64 ob.kind,.int .i64 ob.thread,.int .i64 ob.at_,.slice z1 s t,.int .i64 (ob.st.vars 0),.int .i64 (ob.st.vars 1),.int .i64 (ob.st.vars 2),.int .i64 (ob.st.vars 3),.slice k l n] 31)).heap[c.heap.size+1]?=some (.cells #[.int .i64 ob.kind,.int .i64 ob.thread,.int .i64 ob.at_,.slice z1 s t,.int .i64 (ob.st.vars 0),.int .i64 (ob.st.vars 1),.int .i64 (ob.st.vars 2),.int .i64 (ob.st.vars 3),.slice k l n] 31)):=by
   have:=heap_alloc_new (c.alloc (.cells #[.int .i64 oa.kind,.int .i64 oa.thread,.int .i64 oa.at_,.slice x1 x2 x3,.int .i64 (oa.st.vars 0),.int .i64 (oa.st.vars 1),.int .i64 (oa.st.vars 2),.int .i64 (oa.st.vars 3),.slice o q r] 31)) (.cells #[.int .i64 ob.kind,.int .i64 ob.thread,.int .i64 ob.at_,.slice z1 s t,.int .i64 (ob.st.vars 0),.int .i64 (ob.st.vars 1),.int .i64 (ob.st.vars 2),.int .i64 (ob.st.vars 3),.slice k l n] 31);unfold Hid;simpa using this
  have E:Hid (c.grownBy ((c.alloc (.cells #[.int .i64 oa.kind,.int .i64 oa.thread,.int .i64 oa.at_,.slice x1 x2 x3,.int .i64 (oa.st.vars 0),.int .i64 (oa.st.vars 1),.int .i64 (oa.st.vars 2),.int .i64 (oa.st.vars 3),.slice o q r] 31)).alloc (.cells #[.int .i64 ob.kind,.int .i64 ob.thread,.int .i64 ob.at_,.slice z1 s t,.int .i64 (ob.st.vars 0),.int .i64 (ob.st.vars 1),.int .i64 (ob.st.vars 2),.int .i64 (ob.st.vars 3),.slice k l n] 31)) none):=iq (iq (ir _ _));generalize (c.alloc (.cells #[.int .i64 oa.kind,.int .i64 oa.thread,.int .i64 oa.at_,.slice x1 x2 x3,.int .i64 (oa.st.vars 0),.int .i64 (oa.st.vars 1),.int .i64 (oa.st.vars 2),.int .i64 (oa.st.vars 3),.slice o q r] 31)).alloc (.cells #[.int .i64 ob.kind,.int .i64 ob.thread,.int .i64 ob.at_,.slice z1 s t,.int .i64 (ob.st.vars 0),.int .i64 (ob.st.vars 1),.int .i64 (ob.st.vars 2),.int .i64 (ob.st.vars 3),.slice k l n] 31)=w5 at*;have L:Hid (∀ u,w5.grownBy u none->u.cell? ⟨w.heap.size,0,none⟩=some (.slice d p.length f)/\(u.cell? ⟨c.heap.size,0,none⟩=some (.int .i64 oa.kind)/\u.cell? ⟨c.heap.size,1,none⟩=some (.int .i64 oa.thread)/\u.cell? ⟨c.heap.size,2,none⟩=some (.int .i64 oa.at_)/\u.cell? ⟨c.heap.size,3,none⟩=some (.slice x1 x2 x3)/\u.cell? ⟨c.heap.size,4,none⟩=some (.int .i64 (oa.st.vars 0))/\u.cell? ⟨c.heap.size,5,none⟩=some (.int .i64 (oa.st.vars 1))/\u.cell? ⟨c.heap.size,6,none⟩=some (.int .i64 (oa.st.vars 2))/\u.cell? ⟨c.heap.size,7,none⟩=some (.int .i64 (oa.st.vars 3))/\u.cell? ⟨c.heap.size,8,none⟩=some (.slice o q r))/\(u.cell? ⟨c.heap.size+1,0,none⟩=some (.int .i64 ob.kind)/\u.cell? ⟨c.heap.size+1,1,none⟩=some (.int .i64 ob.thread)/\u.cell? ⟨c.heap.size+1,2,none⟩=some (.int .i64 ob.at_)/\u.cell? ⟨c.heap.size+1,3,none⟩=some (.slice z1 s t)/\u.cell? ⟨c.heap.size+1,4,none⟩=some (.int .i64 (ob.st.vars 0))/\u.cell? ⟨c.heap.size+1,5,none⟩=some (.int .i64 (ob.st.vars 1))/\u.cell? ⟨c.heap.size+1,6,none⟩=some (.int .i64 (ob.st.vars 2))/\u.cell? ⟨c.heap.size+1,7,none⟩=some (.int .i64 (ob.st.vars 3))/\u.cell? ⟨c.heap.size+1,8,none⟩=some (.slice k l n))):=fun u hu=>by
   have ka:u.heap[c.heap.size]?=some (.cells #[.int .i64 oa.kind,.int .i64 oa.thread,.int .i64 oa.at_,.slice x1 x2 x3,.int .i64 (oa.st.vars 0),.int .i64 (oa.st.vars 1),.int .i64 (oa.st.vars 2),.int .i64 (oa.st.vars 3),.slice o q r] 31):=by rw [hu.block _ (Array.getElem?_eq_some_iff.1 am.out).1 (by simp)];exact am.out
   have kb:u.heap[c.heap.size+1]?=some (.cells #[.int .i64 ob.kind,.int .i64 ob.thread,.int .i64 ob.at_,.slice z1 s t,.int .i64 (ob.st.vars 0),.int .i64 (ob.st.vars 1),.int .i64 (ob.st.vars 2),.int .i64 (ob.st.vars 3),.slice k l n] 31):=by rw [hu.block _ (Array.getElem?_eq_some_iff.1 an.out).1 (by simp)];exact an.out
   obtain⟨p0,p1,p2,p3,p4,p5,p6,p7,p8,_⟩:=jl ka;obtain⟨q0,q1,q2,q3,q4,q5,q6,q7,q8,_⟩:=jl kb;exact⟨ip (il E.out hu) _ _ c4,⟨p0,p1,p2,p3,p4,p5,p6,p7,p8⟩,⟨q0,q1,q2,q3,q4,q5,q6,q7,q8⟩⟩
  have aO:Hid (∀ u,w5.grownBy u none->ProgAt u (.agg #[.slice d p.length f]) p):=fun u hu=>HP.out.pres (ip (il aq.out (il E.out hu)))
  obtain⟨_,⟨G,H,I,_⟩,⟨j,J,K,_⟩⟩:=L.out w5 (ir _ _);clear c4 am an;go_wp2_with fail
  refine(md oa ob _).mono ?_;rintro e w6 ⟨rfl,aB⟩;have A:=ij aB;have bi:Hid (w.grownBy w6 none):=il aq.out (il E.out aB);clear aB G H I j J K;cases hlk:likeV oa ob
  ·have D:Hid (sameS p a b=false):=by unfold Hid;rw [aR.out,hlk];rfl
   clear hlk;go_wp2_with fail
   exact bodyPost_ret (v:= .tuple #[.bool false,.int .i64 0]) (by simp [results,Tryz.results34,go_sem]) rfl ⟨bi.out,Or.inl ⟨R.out,by rw [D.out]⟩⟩
  ·have D:Hid (sameS p a b=(formS p oa==formS p ob)):=by unfold Hid;rw [aR.out,hlk];rfl
   clear hlk;have bt:=L.out w6.drew (iy A.out);go_wp2_with fail
   refine iz (fun u=>u.cell? ⟨w.heap.size,0,none⟩=some (.slice d p.length f)/\(u.cell? ⟨c.heap.size,0,none⟩=some (.int .i64 oa.kind)/\u.cell? ⟨c.heap.size,1,none⟩=some (.int .i64 oa.thread)/\u.cell? ⟨c.heap.size,2,none⟩=some (.int .i64 oa.at_)/\u.cell? ⟨c.heap.size,3,none⟩=some (.slice x1 x2 x3)/\u.cell? ⟨c.heap.size,4,none⟩=some (.int .i64 (oa.st.vars 0))/\u.cell? ⟨c.heap.size,5,none⟩=some (.int .i64 (oa.st.vars 1))/\u.cell? ⟨c.heap.size,6,none⟩=some (.int .i64 (oa.st.vars 2))/\u.cell? ⟨c.heap.size,7,none⟩=some (.int .i64 (oa.st.vars 3))/\u.cell? ⟨c.heap.size,8,none⟩=some (.slice o q r))/\(u.cell? ⟨c.heap.size+1,0,none⟩=some (.int .i64 ob.kind)/\u.cell? ⟨c.heap.size+1,1,none⟩=some (.int .i64 ob.thread)/\u.cell? ⟨c.heap.size+1,2,none⟩=some (.int .i64 ob.at_)/\u.cell? ⟨c.heap.size+1,3,none⟩=some (.slice z1 s t)/\u.cell? ⟨c.heap.size+1,4,none⟩=some (.int .i64 (ob.st.vars 0))/\u.cell? ⟨c.heap.size+1,5,none⟩=some (.int .i64 (ob.st.vars 1))/\u.cell? ⟨c.heap.size+1,6,none⟩=some (.int .i64 (ob.st.vars 2))/\u.cell? ⟨c.heap.size+1,7,none⟩=some (.int .i64 (ob.st.vars 3))/\u.cell? ⟨c.heap.size+1,8,none⟩=some (.slice k l n))) 8 (by kernel_rfl) (by kernel_rfl) bt ?_;intro M;refine ie 0 ?va0 rfl (by kernel_rfl) (fun _ _ _ h=>h) (by rfl) ?ya0 M ?_
   case ya0=>(rintro u ⟨aj,⟨G,H,I,W,X,Y,Z,aa,ab⟩,⟨j,J,K,ac,ad,ae,af,ag,ah⟩⟩;go_simp;try rfl)
   simp only [Act.put,List.setIfInBounds_toArray];refine ie 1 ?va1 rfl (by kernel_rfl) (fun _ _ _ h=>h) (by rfl) ?ya1 M ?_
   case ya1=>(rintro u ⟨aj,⟨G,H,I,W,X,Y,Z,aa,ab⟩,⟨j,J,K,ac,ad,ae,af,ag,ah⟩⟩;go_simp;try rfl)
   simp only [Act.put];refine ie 3 ?va3 rfl (by kernel_rfl) (fun _ _ _ h=>h) (by rfl) ?ya3 M ?_
   case ya3=>(rintro u ⟨aj,⟨G,H,I,W,X,Y,Z,aa,ab⟩,⟨j,J,K,ac,ad,ae,af,ag,ah⟩⟩;go_simp;try rfl)
   simp only [Act.put];refine ie 4 ?va4 rfl (by kernel_rfl) (fun _ _ _ h=>h) (by rfl) ?ya4 M ?_
   case ya4=>(rintro u ⟨aj,⟨G,H,I,W,X,Y,Z,aa,ab⟩,⟨j,J,K,ac,ad,ae,af,ag,ah⟩⟩;go_simp;try rfl)
   simp only [Act.put];refine iu (i:=2) rfl (by kernel_rfl) (by kernel_rfl) (by rfl) ?_;intro K2 a3;have aK:=ij a3;clear a3;go_simp;refine(bn.out _ (iy (il bh.out (il E.out A.out))) (aO.out _ (iy A.out))).mono ?_;rintro e w7 ⟨fa,rfl,U,bb⟩;obtain⟨f1,f2,f3,rfl⟩:=iw U;have bu:=iB U;subst bu;have aH:=ij (iV U);have T:Hid (w6.grownBy w7 none):=ly bb;have a1:=L.out w7 (il A.out T.out);refine aK.out _ _ a1 ?_;clear aK U bb;try simp only [Act.put,List.setIfInBounds_toArray]
   refine iu (i:=5) rfl (by kernel_rfl) (by kernel_rfl) (by rfl) ?_;intro K5 a4;have aL:=ij a4;clear a4;go_simp;refine(bo.out _ (il E.out (il A.out T.out)) (aO.out _ (il A.out T.out))).mono ?_;rintro e w8 ⟨fb,rfl,V,aC⟩;obtain⟨g1,g2,g3,rfl⟩:=iw V;have N:=iB V;subst N;have bf:=ij (iV V);have aJ:=ij aC;have ar:Hid (w5.grownBy w8 none):=il A.out (il T.out aC);have a2:=L.out w8 ar.out;refine aL.out _ _ a2 ?_;clear aL V aC;try simp only [Act.put,List.setIfInBounds_toArray]
   refine iu (i:=6) rfl (by kernel_rfl) (by kernel_rfl) (by rfl) ?_;intro K6 a5;have aM:=ij a5;clear a5;go_simp;have bw:(formS p oa).length<=9223372036854775806:=by
    obtain⟨_,_,e,_⟩:=aH.out;have:=bg.out;omega
   refine(xT (formS p oa) (formS p ob) _ _ w8 ((aH.out.pres (ip aJ.out)).mono aJ.out.size) bf.out bw).mono ?_;rintro e w9 ⟨rfl,bc⟩;have aD:w8.grownBy w9 none:=iH bc;have bj:Hid (w.grownBy w9 none):=il (il aq.out E.out) (il ar.out aD);have aw:=L.out w9 (il ar.out aD);refine aM.out _ _ aw ?_;clear aM bc aD;try simp only [Act.put,List.setIfInBounds_toArray]
   refine ie 7 ?vb7 rfl (by kernel_rfl) (fun _ _ _ h=>h) (by rfl) ?yb7 aw ?_
   case yb7=>(rintro u ⟨aj,⟨G,H,I,W,X,Y,Z,aa,ab⟩,⟨j,J,K,ac,ad,ae,af,ag,ah⟩⟩;go_simp;try rfl)
   simp only [Act.put,List.setIfInBounds_toArray];refine iF rfl (by kernel_rfl) (by kernel_rfl) (by rfl) ?_;go_simp;generalize hz:(formS p oa==formS p ob)=z at*;clear hz M a1 a2 aw;go_wp2_with fail
   exact bodyPost_ret (v:= .tuple #[.bool z,.int .i64 0]) (by simp [results,Tryz.results34,go_sem]) rfl ⟨bj.out,Or.inl ⟨R.out,by rw [D.out]⟩⟩
 ·have R:=ij B;have hne:(checkRunsN p [a,b] !=0)=true:=by simpa using B
  clear B;generalize hE:checkRunsN p [a,b]=e at*;have D:=ij hE;clear hE;go_wp2_with fail
  exact bodyPost_ret (v:= .tuple #[.bool false,.int .i64 e]) (by simp [results,Tryz.results34,go_sem]) rfl ⟨ap.out,Or.inr ⟨by rw [D.out];exact R.out,by rw [D.out]⟩⟩
theorem pG(l m:List Int)(v u:Value)(w:World)(E:IntsAt w.heap.size w v l)(F:IntsAt w.heap.size w u m)(hln:l.length<=9223372036854775806):
  Calls Tryz.prog 61 #[v,u] w fun e w'=>e= .returned (.bool (l==m))/\Like w' w:=by
 obtain⟨ao,cap,rfl,hcap,hc⟩:=E;obtain⟨bo,dap,rfl,hdap,p⟩:=F;by_cases q:l.length=m.length
 ·have C:=ij hc;have D:=ij p;clear hc p;have G:(l.length:Int)=m.length:=by omega
  have H:((l.length:Int) !=(m.length:Int))=false:=by simp;omega
  have s:=ij q;go_enter Tryz.func61,Tryz.ntmps61
  clear q G;go_wp2_with fail
  go_loopw [5] (fun i w'=>∃ k:Nat,k<=l.length/\i= .int .i64 k/\Hid (Like w' w)/\Hid (l.take k=m.take k)) (fun i _=>l.length - (intOf i).toNat)
  case atStart=>exact⟨0,Nat.zero_le _,rfl,ij (uU _),by simp [Hid]⟩
  case round=>
   obtain⟨k,hk,rfl,f,r⟩:=hrel;obtain⟨d,J⟩:∃ d,d=wr:=⟨_,rfl⟩;subst J;by_cases z:k<l.length
   ·have A:k<m.length:=by have:=s.out;omega
    obtain⟨g,o,rfl,_,c0⟩:=C.out k z;obtain⟨g2,K,rfl,_,c1⟩:=D.out k A;have n:∀ a,d.cell? a=w.cell? a:=fun a=>by simp [World.cell?,f.out.1]
    have d0:d.cell? ⟨g,o+k,none⟩=some (.int .i64 l[k]):=by rw [n];exact c0
    have d1:d.cell? ⟨g2,K+k,none⟩=some (.int .i64 m[k]):=by rw [n];exact c1
    have hk0:(0:Int)<=(k:Int):=by omega
    have hk1:(k:Int)<l.length:=by omega
    have hk2:(k:Int)<m.length:=by omega
    have h:Hid (l.take (k+1)=l.take k++[l[k]]):=List.take_succ_eq_append_getElem z;have j:Hid (m.take (k+1)=m.take k++[m[k]]):=List.take_succ_eq_append_getElem A;clear n c0 c1;by_cases b:l[k]=m[k]
    ·have I:(l[k] !=m[k])=false:=by simpa using b
     have B:Hid (l.take (k+1)=m.take (k+1)):=by unfold Hid;rw [h.out,j.out,r.out,b]
     clear b h j;generalize l[k]=x at*;generalize m[k]=y at*;go_wp2_with fail
     go_quiet (fail)
     go_wp2_with fail
     go_roundw
     case rel=>exact⟨k+1,by omega,by go_num,ij (qZ f.out _),B⟩
     case measure=>simp [intOf];omega
    ·have I:(l[k] !=m[k])=true:=by simpa using b
     have c:Hid ((l==m)=false):=by
      unfold Hid;simp only [beq_eq_false_iff_ne];intro e;apply b;simp [e]
     clear b h j;generalize l[k]=x at*;generalize m[k]=y at*;go_wp2_with fail
     go_quiet (fail)
     go_wp2_with fail
     go_ret;exact⟨by rw [c.out];rfl,qZ f.out _⟩
   ·have c:Hid ((l==m)=true):=by
     unfold Hid;have t:=r.out;rw [List.take_of_length_le (by omega),List.take_of_length_le (by have:=s.out;omega)]at t;simpa using t
    have q2:(l.length:Int)<=(k:Int):=by omega
    go_wp2_with fail
    go_ret;exact⟨by rw [c.out];rfl,f.out⟩
 ·have c:Hid ((l==m)=false):=by
   unfold Hid;simp only [beq_eq_false_iff_ne];intro e;exact q (by rw [e])
  have H:((l.length:Int) !=(m.length:Int))=true:=by simp;omega
  clear hc p;go_enter Tryz.func61,Tryz.ntmps61
  go_wp2_with fail
  go_ret;exact⟨by rw [c.out];rfl,uU _⟩
theorem rF{w e:World}{b i n:Nat}{p:List (List Ins)}{a:Option Addr}{c:Nat}{f:Value}{o:Out}{xs:List Ev}(h:RunAt w e b i n p.length (.slice a p.length c) f o.st o.steps o.kind o.thread o.at_)(l:Stood p o xs)(j:ProgAt e (.agg #[.slice a p.length c]) p):
  ∃ sao sc,f= .slice sao xs.length sc/\RunRead e b p xs o a c sao sc:=by
 obtain⟨x1,x2,x3,rfl⟩:=iw h.row;have k:o.steps.length=xs.length:=by rw [l.st,List.length_map]
 have d:=h.row;rw [k]at d;have m:=iB d;subst m;exact⟨x1,x3,rfl,j,(h.cell 0).1,(h.cell 10).1,(h.cell 11).1,_,d⟩
theorem wQ(p:List (List Ins))(s:List Int)(pv sv:Value)(w:World)(t:ProgAt w pv p)(r:IntsAt w.heap.size w sv s)(P:p.length<=5864062014634)(H:∀ c∈p,c.length<=4398046510976):
  Calls Tryz.prog 29 #[pv,sv] w (Formd p s w):=by
 have q:=ij t;have L:=ij r;have N:=ij H;obtain⟨l,m,rfl⟩:=t.form;obtain⟨so,sc,rfl⟩:=r.form;clear t r H;go_enter Tryz.func29,Tryz.ntmps29
 go_wp2_with fail
 have E:∀ a,w.grownBy (w.alloc a) none:=fun a=>iq (ir _ _)
 refine(kd p _ _ (q.out.pres (ip (E _))) P N.out).mono ?_;rintro e n ⟨rfl,x⟩;have f:Hid (w.grownBy n none):=il (E _) x;have D:n.heap[w.heap.size]?=some (.cells #[.slice l p.length m] 37 (0,0)):=by
  rw [x.block w.heap.size (by simp) (by simp)];exact heap_alloc_new w _
 have c0:n.cell? ⟨w.heap.size,0,none⟩=some (.slice l p.length m):=by simp [World.cell?,D]
 clear D x;by_cases h:vProg p=true
 ·have j:checkN p=0:=by simp [checkN,h]
  have i:=ij h;rw [j];clear j h;by_cases B:s.length<=500
  ·have O:(s.length:Int)<=500:=by omega
   have d:Hid (checkRunN p s=0):=by unfold Hid checkRunN;simp [i.out,B]
   go_wp2_with fail
   have z:=ij (ms n l m p _ s i.out (q.out.pres (ip f.out)) ((L.out.pres (ip f.out)).mono f.out.size) (by omega));refine(kI z).mono ?_;clear z;rintro e I ⟨b,ab,rb,st,rfl,u⟩;have o:Hid (w.grownBy I none):=il f.out u.frame;obtain⟨xs,k⟩:=kZ i.out s;obtain⟨R,S,rfl,C⟩:=rF u k (q.out.pres (ip o.out));have Q:xs.length<=500:=by
    have A:=kY p s;rw [k.st]at A;simp at A;omega
   have y:=ij (ny i.out k Q I b l m R S C);have J:Hid (formS p (runS p s)=formE p xs):=by unfold Hid formS;rw [k.ev]
   clear u k C c0;go_wp2_with fail
   refine(kI y).mono ?_;clear y;rintro e w3 ⟨v,rfl,G,F⟩;have M:=ij G;have K:=ij F;clear G F;go_wp2_with fail
   exact bodyPost_ret (v:= .tuple #[v,.int .i64 0]) (by simp [results,Tryz.results29,go_sem]) rfl ⟨il o.out K.out,Or.inl ⟨d.out,v,rfl,by rw [J.out];exact iK M.out o.out.size⟩⟩
  ·have O:(500:Int)<s.length:=by omega
   have d:Hid (checkRunN p s=2):=by unfold Hid checkRunN;simp [i.out,B]
   go_wp2_with fail
   exact bodyPost_ret (v:= .tuple #[.slice none 0 0,.int .i64 2]) (by simp [results,Tryz.results29,go_sem]) rfl ⟨f.out,Or.inr ⟨by rw [d.out];decide,by rw [d.out]⟩⟩
 ·have j:checkN p=1:=by simp [checkN,h]
  have d:Hid (checkRunN p s=1):=by unfold Hid checkRunN;simp [h]
  rw [j];clear j h;go_wp2_with fail
  exact bodyPost_ret (v:= .tuple #[.slice none 0 0,.int .i64 1]) (by simp [results,Tryz.results29,go_sem]) rfl ⟨f.out,Or.inr ⟨by rw [d.out];decide,by rw [d.out]⟩⟩
theorem m7(p:List (List Ins))(s:List Int)(h:(runS p s).kind=2):(runS p s).thread=0:=by
 have hc:=kr p s 0 St.zero [];change ∃ xs a,RunE p St.zero xs a/\(runS p s).steps=[]++xs.map Ev.pr/\(runS p s).st=a/\((good xs/\xs.map Ev.tI=s/\(runS p s).kind=endingS p a/\(runS p s).thread=0/\(runS p s).at_=0)\/(good xs/\(∃ u r,s=xs.map Ev.tI++u::r/\okAt p a u=false)/\(runS p s).kind=2/\(runS p s).thread=0/\(runS p s).at_=0+xs.length)\/(∃ ys z r,xs=ys++[z]/\good ys/\z.bad=true/\s=xs.map Ev.tI++r/\(runS p s).kind=1/\(runS p s).thread=z.tI/\(runS p s).at_=z.k))at hc
 obtain⟨xs,a,_,_,_,hc⟩:=hc;rcases hc with ⟨_,_,_,g4,_⟩ | ⟨_,_,_,g4,_⟩ | ⟨us,z,r,_,_,_,_,g5,_⟩
 ·exact g4
 ·exact g4
 ·omega
theorem uf{a b:Out}(k:a.kind=2->a.thread=0)(d:b.kind=2->b.thread=0):likeV a b=(a.kind==b.kind && a.thread==b.thread && (a.kind==2 || a.at_==b.at_)):=by
 unfold likeV;by_cases h:a.kind=2
 ·rw [if_pos h];by_cases c:b.kind=2
  ·simp [h,c,k h,d c]
  ·have f:¬(2:Int)=b.kind:=fun e=>c e.symm
   have i:(b.kind==2)=false:=by simpa using c
   have j:((2:Int)==b.kind)=false:=by simpa using f
   rw [i,h,j];simp
 ·have d:(a.kind==2)=false:=by simpa using h
  rw [if_neg h,d];simp
theorem wR(p:List (List Ins))(a b:List Int)(pv av bv:Value)(w:World)(V:ProgAt w pv p)(S:IntsAt w.heap.size w av a)(T:IntsAt w.heap.size w bv b)(aY:p.length<=5864062014634)(aH:∀ c∈p,c.length<=4398046510976):
  Calls Tryz.prog 35 #[pv,av,bv] w (Samed p a b w):=by
 have y:=ij V;have HI:=ij S;have HJ:=ij T;have aQ:=ij aH;obtain⟨r,s,rfl⟩:=V.form;obtain⟨so,sc,rfl⟩:=S.form;obtain⟨sp,sd,rfl⟩:=T.form;clear V S T aH;go_enter Tryz.func35,Tryz.ntmps35
 go_wp2_with fail
 have aB:∀ a,w.grownBy (w.alloc a) none:=fun a=>iq (ir _ _)
 refine(kd p _ _ (y.out.pres (ip (aB _))) aY aQ.out).mono ?_;rintro e N ⟨rfl,W⟩;have m:Hid (w.grownBy N none):=il (aB _) W;have aA:N.heap[w.heap.size]?=some (.cells #[.slice r p.length s] 37 (0,0)):=by
  rw [W.block w.heap.size (by simp) (by simp)];exact heap_alloc_new w _
 have c0:N.cell? ⟨w.heap.size,0,none⟩=some (.slice r p.length s):=by simp [World.cell?,aA]
 clear aA W;by_cases t:vProg p=true
 ·have B:checkN p=0:=by simp [checkN,t]
  have k:=ij t;rw [B];clear B t;by_cases h5:a.length<=500
  ·have aV:(a.length:Int)<=500:=by omega
   by_cases h6:b.length<=500
   ·have aW:(b.length:Int)<=500:=by omega
    have i:Hid (checkRunsN p [a,b]=0):=by unfold Hid checkRunsN;simp [k.out,h5,h6]
    have z:=ij (ms N r s p (.slice so a.length sc) a k.out (y.out.pres (ip m.out)) ((HI.out.pres (ip m.out)).mono m.out.size) (by omega));go_wp2_with fail
    refine(kI z).mono ?_;clear z;rintro e X ⟨b1,ab1,rb1,st1,rfl,D⟩;have aK:=ij D.frame;have x:Hid (w.grownBy X none):=il m.out D.frame;obtain⟨xs,F⟩:=kZ k.out a;obtain⟨ba,bd,rfl,ay⟩:=rF D F (y.out.pres (ip x.out));have a1:xs.length<=500:=by
     have C:=kY p a;rw [F.st]at C;simp at C;omega
    obtain⟨_,d1,d2,d3,_,_,_⟩:=D.vcells;have c2:=ip aK.out _ _ c0;have ac:=ij (fun(u:World) (hu:X.grownBy u none)=>ny k.out F a1 u b1 r s ba bd (ay.grown hu));have Y:Hid (formS p (runS p a)=formE p xs):=by unfold Hid formS;rw [F.ev]
    clear D F ay c0;have z:=ij (ms X r s p (.slice sp b.length sd) b k.out (y.out.pres (ip x.out)) ((HJ.out.pres (ip x.out)).mono x.out.size) (by omega));go_wp2_with fail
    refine(kI z).mono ?_;clear z;rintro e d ⟨b2,ab2,rb2,st2,rfl,E⟩;have J:=ij E.frame;have ag:Hid (w.grownBy d none):=il x.out E.frame;obtain⟨I,G⟩:=kZ k.out b;obtain⟨bb,be,rfl,az⟩:=rF E G (y.out.pres (ip ag.out));have a2:I.length<=500:=by
     have C:=kY p b;rw [G.st]at C;simp at C;omega
    obtain⟨_,f1,f2,f3,_,_,_⟩:=E.vcells;have k1:=ip J.out _ _ d1;have k2:=ip J.out _ _ d2;have k3:=ip J.out _ _ d3;have hl1:b1<d.heap.size:=World.block_lt_of_cell? d _ k1;have hl2:b2<d.heap.size:=World.block_lt_of_cell? d _ f1;have ad:=ij (fun(u:World) (hu:d.grownBy u none)=>ny k.out G a2 u b2 r s bb be (az.grown hu));have Z:Hid (formS p (runS p b)=formE p I):=by unfold Hid formS;rw [G.ev]
    have aj:=ij (uf (m7 p a) (m7 p b));have A:Hid (sameS p a b=(likeV (runS p a) (runS p b) && (formS p (runS p a)==formS p (runS p b)))):=rfl;rw [aj.out,Y.out,Z.out]at A;clear E G az c2 d1 d2 d3 aj Y Z;have aX:=kt p xs;have aJ:Hid ((formE p xs).length<=500):=by unfold Hid;omega
    clear aX;generalize (runS p a).kind=ka at*;generalize (runS p a).thread=ta at*;generalize (runS p a).at_=aa at*;generalize (runS p b).kind=kb at*;generalize (runS p b).thread=tb at*;generalize (runS p b).at_=ab at*;go_upto_region 10 with fail
    obtain⟨h,H⟩:∃ h,h=(d.alloc (.cells #[.int .i64 ka,.int .i64 ta,.int .i64 aa] 26)).alloc (.cells #[.int .i64 kb,.int .i64 tb,.int .i64 ab] 26):=⟨_,rfl⟩;have Q:Hid (d.grownBy h none):=by unfold Hid;rw [H];exact iq (iq (ir _ _))
    have z1:h.heap[d.heap.size]?=some (.cells #[.int .i64 ka,.int .i64 ta,.int .i64 aa] 26 (0,0)):=by
     rw [H,Below.heap_alloc _ _ _ (by simp)];exact heap_alloc_new _ _
    have O:h.heap[d.heap.size+1]?=some (.cells #[.int .i64 kb,.int .i64 tb,.int .i64 ab] 26 (0,0)):=by
     have:=heap_alloc_new (d.alloc (.cells #[.int .i64 ka,.int .i64 ta,.int .i64 aa] 26)) (.cells #[.int .i64 kb,.int .i64 tb,.int .i64 ab] 26);rw [H];simpa using this
    rw [<-H];clear H k1 k2 k3 f1 f2 f3;have m0:h.cell? ⟨d.heap.size,0,none⟩=some (.int .i64 ka):=by simp [World.cell?,z1]
    have m1:h.cell? ⟨d.heap.size,1,none⟩=some (.int .i64 ta):=by simp [World.cell?,z1]
    have m2:h.cell? ⟨d.heap.size,2,none⟩=some (.int .i64 aa):=by simp [World.cell?,z1]
    have n0:h.cell? ⟨d.heap.size+1,0,none⟩=some (.int .i64 kb):=by simp [World.cell?,O]
    have n1:h.cell? ⟨d.heap.size+1,1,none⟩=some (.int .i64 tb):=by simp [World.cell?,O]
    have n2:h.cell? ⟨d.heap.size+1,2,none⟩=some (.int .i64 ab):=by simp [World.cell?,O]
    clear z1 O;obtain⟨l,U⟩:∃ l,l=(ka==kb && ta==tb && (ka==2 || aa==ab)):=⟨_,rfl⟩;rw [<-U]at A;have o:=ij U;clear U;go_cut [65] (fun q w'=>q= .bool (!l)/\w'=h)
    case first=>
     by_cases K:ka=kb
     ·subst K;by_cases L:ta=tb
      ·subst L;by_cases n:ka=2
       ·have aS:(ka !=2)=false:=by simpa using n
        have f:l=true:=by rw [o.out];simp [n]
        have j:=ij f;subst n;clear f;go_wp2_with fail
        go_meet
        exact⟨by rw [j.out];rfl,rfl⟩
       ·have aS:(ka !=2)=true:=by simpa using n
        by_cases M:aa=ab
        ·subst M;have f:l=true:=by rw [o.out];simp
         have j:=ij f;clear f n;go_wp2_with fail
         go_meet
         exact⟨by rw [j.out];rfl,rfl⟩
        ·have e4':(aa !=ab)=true:=by simpa using M
         have f:l=false:=by rw [o.out];simp [n,M]
         have j:=ij f;clear f n M;go_wp2_with fail
         go_meet
         exact⟨by rw [j.out];rfl,rfl⟩
      ·have e2':(ta !=tb)=true:=by simpa using L
       have f:l=false:=by rw [o.out];simp [L]
       have j:=ij f;clear f L;go_wp2_with fail
       go_meet
       exact⟨by rw [j.out];rfl,rfl⟩
     ·have e1':(ka !=kb)=true:=by simpa using K
      have f:l=false:=by rw [o.out];simp [K]
      have j:=ij f;clear f K;go_wp2_with fail
      go_meet
      exact⟨by rw [j.out];rfl,rfl⟩
    case rest=>
    obtain⟨rfl,aZ⟩:=hcut;have a0:=aZ.symm;subst a0;clear m0 m1 m2 n0 n1 n2;have ah:Hid (w.grownBy h none):=il ag.out Q.out;cases l with
    | false=>
     have P:Hid (sameS p a b=false):=by unfold Hid;rw [A.out];rfl
     go_wp2_with fail
     exact bodyPost_ret (v:= .tuple #[.bool false,.int .i64 0]) (by simp [results,Tryz.results35,go_sem]) rfl ⟨ah.out,Or.inl ⟨i.out,by rw [P.out]⟩⟩
    | true=>
     have P:Hid (sameS p a b=(formE p xs==formE p I)):=by unfold Hid;rw [A.out];rfl
     clear A o;have ae:=ij (ac.out h (il J.out Q.out));clear ac;go_wp2_with fail
     refine(kI ae).mono ?_;clear ae;rintro e w6 ⟨v6,rfl,aF,aC⟩;have aO:=ij aF;have ai:=ij aC;clear aF aC;have af:=ij (ad.out w6 (il Q.out ai.out));clear ad;go_wp2_with fail
     refine(kI af).mono ?_;clear af;rintro e w7 ⟨v7,rfl,aG,aD⟩;have aP:=ij aG;have R:=ij aD;clear aG aD;have ak:=ij (pG (formE p xs) (formE p I) v6 v7 w7 (((iV aO.out).pres (ip R.out)).mono R.out.size) (iV aP.out) (by have:=aJ.out;omega));go_wp2_with fail
     refine(kI ak).mono ?_;clear ak;rintro e w8 ⟨rfl,aE⟩;have aL:Hid (w7.grownBy w8 none):=iH aE;clear aE;go_wp2_with fail
     exact bodyPost_ret (v:= .tuple #[.bool (formE p xs==formE p I),.int .i64 0]) (by simp [results,Tryz.results35,go_sem]) rfl ⟨il ah.out (il ai.out (il R.out aL.out)),Or.inl ⟨i.out,by rw [P.out]⟩⟩
   ·have aW:(500:Int)<b.length:=by omega
    have i:Hid (checkRunsN p [a,b]=2):=by unfold Hid checkRunsN;simp [k.out,h6]
    go_wp2_with fail
    exact bodyPost_ret (v:= .tuple #[.bool false,.int .i64 2]) (by simp [results,Tryz.results35,go_sem]) rfl ⟨m.out,Or.inr ⟨by rw [i.out];decide,by rw [i.out]⟩⟩
  ·have aV:(500:Int)<a.length:=by omega
   have i:Hid (checkRunsN p [a,b]=2):=by unfold Hid checkRunsN;simp [k.out,h5]
   go_wp2_with fail
   exact bodyPost_ret (v:= .tuple #[.bool false,.int .i64 2]) (by simp [results,Tryz.results35,go_sem]) rfl ⟨m.out,Or.inr ⟨by rw [i.out];decide,by rw [i.out]⟩⟩
 ·have B:checkN p=1:=by simp [checkN,t]
  have i:Hid (checkRunsN p [a,b]=1):=by unfold Hid checkRunsN;simp [t]
  rw [B];clear B t;go_wp2_with fail
  exact bodyPost_ret (v:= .tuple #[.bool false,.int .i64 1]) (by simp [results,Tryz.results35,go_sem]) rfl ⟨m.out,Or.inr ⟨by rw [i.out];decide,by rw [i.out]⟩⟩
end
end Go.Proofs.YtklenjmfalljgabGreatDoor
