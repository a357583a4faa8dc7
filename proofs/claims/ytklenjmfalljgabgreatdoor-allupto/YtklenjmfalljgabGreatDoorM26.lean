/- The texts Prn2 RefA RefB RefC RefD RefE RefF RefG Wrt6. -/
import Derived.Test.YtklenjmfalljgabGreatDoorM22
import Derived.Test.YtklenjmfalljgabGreatDoorM24
import Derived.Test.YtklenjmfalljgabGreatDoorShelf
import Derived.Lib.QuietBelow
import Derived.Lib.AppendIntMem
namespace Go.Proofs.YtklenjmfalljgabGreatDoor
set_option maxRecDepth 100000
set_option maxHeartbeats 8000000
section
open Go.RowKit
attribute [local go_sem] Go.World.cell?_alloc_some
def Tab(w:World):Prop:=Lib.TabIs Tryz.prog w "internal/strconv.uint64pow10" .u64 Lib.pow10Tab
theorem Tab.grown{w w':World}(h:Tab w)(a:w.grownBy w' none):Tab w':=by
 unfold Tab at*;exact(Lib.tabBelow_of_tabIs h) w' ⟨a.os,a.tape,a.output,a.size,fun k hk=>a.block k hk (by simp)⟩
theorem yu(n:Int)(a: -9223372036854775808<=n)(b:n<=9223372036854775807)(w:World)(c:Tab w):Calls Tryz.prog 144 #[.int .i64 n] w fun e w'=>e= .returned (.string ⟨(Lib.itoa n).toArray⟩)/\w.grownBy w' none:=by
 refine(Tryz.strconv_Itoa n a b w c).mono ?_;rintro e w' ⟨rfl,k,d,rfl⟩;exact⟨rfl,js (Lib.below_grow _ w (Nat.le_refl _) k d)⟩
theorem uN{u:Nat}(h:u<1000):(Lib.decDigits u).length<=3:=by
 have b:∀ u,u<10->(Lib.decDigits u).length=1:=fun u h=>by rw [Lib.decDigits,dif_pos h];rfl
 have c:∀ u,u<100->(Lib.decDigits u).length<=2:=fun u h=>by
  by_cases a:u<10
  ·rw [b u a];omega
  ·rw [Lib.decDigits,dif_neg a,List.length_append,b (u / 10) (by omega)];simp
 by_cases a:u<10
 ·rw [b u a];omega
 ·have:=c (u / 10) (by omega);rw [Lib.decDigits,dif_neg a,List.length_append];simp;omega
theorem lA{n:Int}(h0:0<=n)(h:n<1000):(Lib.itoa n).length<=3:=by
 unfold Lib.itoa;rw [if_neg (by omega)];exact uN (by omega)
theorem B2(t n:Int)(w:World)(s:Tab w)(A:0<=t)(ht1:t<=63)(hn0:1<=n)(hn1:n<=500):
  Calls Tryz.prog 108 #[.agg #[.int .i64 t,.int .i64 n]] w fun e w'=>e= .returned (.string ⟨(wordS t n).toArray⟩)/\w.grownBy w' none:=by
 have l:=ij s;clear s;by_cases j:n=1
 ·subst j;go_enter Tryz.func108,Tryz.ntmps108
  go_wp2_with (go_at_call 144;refine(yu _ (by omega) (by omega) _ (l.out.grown (iq (ir _ _)))).mono ?_;rintro e w' ⟨rfl,b⟩)
  go_ret;exact⟨by simp [wordS],il (iq (ir _ _)) b⟩
 ·have hn:(n==1)=false:=by simpa using j
  go_enter Tryz.func108,Tryz.ntmps108
  have z:∀ o,Tab (w.alloc o):=fun o=>l.out.grown (iq (ir _ _))
  have call:∀ (m:Int) (u: -9223372036854775808<=m) (v:m<=9223372036854775807) (o:Obj) (d:Nat) (a:Array Obj),Calls Tryz.prog 144 #[.int .i64 m] (Sort.grow (redrawn (w.alloc o) d) a) fun e w''=>e= .returned (.string ⟨(Lib.itoa m).toArray⟩)/\∃ p:Regrown,w''=Sort.grow (redrawn (w.alloc o) p.d) p.os:=by
   intro m u v o d a;refine Calls.regrown_of ((yu m u v _ ((z o).grown (js (below_regrown _ d a)))).mono ?_);rintro e w' ⟨rfl,b⟩;exact⟨rfl,b.os,b.tape,b.output,b.size,fun k hk=>b.block k hk (by simp)⟩
  obtain⟨c,i⟩:∃ c:ByteArray,c=⟨(Lib.itoa t).toArray⟩:=⟨_,rfl⟩;obtain⟨f,h⟩:∃ f:ByteArray,f=⟨(Lib.itoa n).toArray⟩:=⟨_,rfl⟩;have l1:c.size<=3:=by rw [i];simpa [ByteArray.size]using lA A (by omega)
  have l2:f.size<=3:=by rw [h];simpa [ByteArray.size]using lA (n:=n) (by omega) (by omega)
  have n1:¬9223372036854775807<c.size+1:=by omega
  have n2:¬9223372036854775807<c.size+1+f.size:=by omega
  have r:=fun o d a=>call t (by omega) (by omega) o d a
  have q:=fun o d a=>call n (by omega) (by omega) o d a
  rw [<-i]at r;rw [<-h]at q;have x:Hid ((⟨(wordS t n).toArray⟩:ByteArray)=c++⟨#[42]⟩++f):=by
   unfold Hid wordS;rw [if_neg j,i,h];apply ByteArray.ext;simp
  clear call i h;go_wp2_with fail
  have c0:∀ d a,(Sort.grow (redrawn (w.alloc (.cells #[.int .i64 t,.int .i64 n] 187)) d) a).cell? ⟨w.heap.size,0,none⟩=some (.int .i64 t):=fun d a=>cell_regrown (by have:=heap_alloc_new w (.cells #[.int .i64 t,.int .i64 n] 187);simp only [World.cell?,this];rfl) d a
  have c1:∀ d a,(Sort.grow (redrawn (w.alloc (.cells #[.int .i64 t,.int .i64 n] 187)) d) a).cell? ⟨w.heap.size,1,none⟩=some (.int .i64 n):=fun d a=>cell_regrown (by have:=heap_alloc_new w (.cells #[.int .i64 t,.int .i64 n] 187);simp only [World.cell?,this];rfl) d a
  refine wp_region_quiet_below (by kernel_rfl) (by kernel_rfl) ?_;repeat (quiet_step (first | exact r _ _ _ | exact q _ _ _))
  refine wpQuiet_nil ?_;intro _ B;obtain⟨⟨y,D⟩,C⟩:=B;subst C;go_wp2
  go_ret;exact⟨by rw [x.out];rfl,il (iq (ir _ _)) (js (below_regrown _ y D))⟩
def strs(q:List (List UInt8)):List Value:=q.map fun x=> .string ⟨x.toArray⟩
def wordsS(q:List (Int × Int)):List (List UInt8):=q.map fun x=>wordS x.1 x.2
theorem sx:((Tryz.prog.info? 9).map fun i=>(i.zero,i.size,i.bytes))=some (some (.string ⟨#[]⟩),1,16):=by kernel_rfl
theorem uR(q:List (Int × Int))(k:Nat)(b:k<q.length):(flatS q)[k*2]?=some (.int .i64 q[k].1)/\(flatS q)[k*2+1]?=some (.int .i64 q[k].2):=by
 induction q generalizing k with
 | nil=>simp at b
 | cons y q ih=>
  have a:flatS (y::q)= .int .i64 y.1:: .int .i64 y.2::flatS q:=rfl;cases k with
  | zero=>rw [a];simp
  | succ k=>
   have:=ih k (by simpa using b);have c:(k+1)*2=k*2+1+1:=by omega
   rw [a,c];simpa using this
theorem zD{t n:Int}(c:0<=t)(h1:t<=63)(h2:1<=n)(h3:n<=500):(wordS t n).length<=7:=by
 have a:=lA c (by omega);have b:=lA (n:=n) (by omega) (by omega);unfold wordS;split
 ·omega
 ·simp;omega
theorem yw(q:List (List UInt8))(h:∀ x∈q,x.length<=7):(Lib.join q [32]).length<=8*q.length:=by
 cases q with
 | nil=>simp [Lib.join_nil]
 | cons x r=>
  rw [Lib.join_cons];have d:∀ r:List (List UInt8),(∀ x∈r,x.length<=7)->(Lib.joinTail [32] r).length<=8*r.length:=by
   intro r;induction r with
   | nil=>intro _;simp [Lib.joinTail]
   | cons y r ih=>
    intro a;have:=ih (fun x b=>a x (by simp [b]));have c:=a y (by simp);simp [Lib.joinTail]at this ⊢;omega
  have:=d r (fun y c=>h y (by simp [c]));have b:=h x (by simp);simp;omega
theorem nj{l:List Int}(h:validS l=true):∀ x∈grp l,0<=x.1/\x.1<=63/\1<=x.2/\x.2<=500:=by
 intro x b;simp only [validS,Bool.and_eq_true,decide_eq_true_eq,List.all_eq_true]at h;have:=mI l x b;have a:=h.2 x.1 this.1;exact⟨a.1,a.2,this.2.1,by omega⟩
theorem yX(l:List Int)(v:Value)(w:World)(O:Tab w)(C:IntsAt w.heap.size w v l)(b:validS l=true):
  Calls Tryz.prog 77 #[v] w fun e w'=>e= .returned (.string ⟨(printS l).toArray⟩)/\w.grownBy w' none:=by
 obtain⟨i0,al,av,aw,ax⟩:=info_parts sx;have h5:l.length<=500:=by simp only [validS,Bool.and_eq_true,decide_eq_true_eq]at b;exact b.1
 have Z:=ij O;have J:=ij (Cf l v w C h5);obtain⟨ao,cap,rfl⟩:=C.form;have L:=ij (nj b);have Q:=lN l;clear O C b;go_enter Tryz.func77,Tryz.ntmps77
 go_wp2_with fail
 refine J.out.mono ?_;rintro e c ⟨x,y,z,rfl,F,P⟩;have G:=iB F;subst G;have A:=ij F;have H:=ij P;clear F P J;have W:Hid (printS l=Lib.join (wordsS (grp l)) [32]):=rfl;generalize grp l=q at*;have hq:(q.length:Int)<=500:=by omega
 go_wp2_with fail
 go_loopw [3,9] (fun lv i w'=>∃ k:Nat,k<=q.length/\i= .int .i64 k/\Hid (w'.ownsRow c.heap.size 9 1 lv k (strs (wordsS (q.take k)))/\c.grownBy w' none)) (fun _ i _=>q.length - (intOf i).toNat)
 case atStart=>exact⟨0,Nat.zero_le _,rfl,⟨rfl,Or.inl ⟨rfl,rfl⟩⟩,ir _ _⟩
 case round=>
  obtain⟨k,hk,rfl,p⟩:=hrel;obtain⟨a,aq⟩:∃ a,a=wr:=⟨_,rfl⟩;subst aq;obtain⟨x1,x2,x3,rfl⟩:=iw p.out.1;have r:=ij p.out.1;have m:=ij p.out.2;have hsz2:=p.out.2.size;have an:=iA r.out;by_cases E:k<q.length
  ·obtain⟨g,cp,d,_,_⟩:=A.out.form (by omega);simp only [Value.slice.injEq,true_and]at d;obtain⟨rfl,rfl⟩:=d;have B:=uR q k E;have d0:a.cell? ⟨g,k*2,none⟩=some (.int .i64 q[k].1):=ip m.out _ _ (by rw [A.out.cellAt _ (by omega)];exact B.1);have d1:a.cell? ⟨g,k*2+1,none⟩=some (.int .i64 q[k].2):=ip m.out _ _ (by rw [A.out.cellAt _ (by omega)];exact B.2);have b:=L.out q[k] (List.getElem_mem E);have M:Hid (strs (wordsS (q.take (k+1)))=strs (wordsS (q.take k))++[.string ⟨(wordS q[k].1 q[k].2).toArray⟩]):=by
    unfold Hid strs wordsS;rw [List.take_succ_eq_append_getElem E,List.map_append,List.map_append];rfl
   generalize q[k]=tn at*;obtain⟨t,n⟩:=tn;simp only at d0 d1 b M;have hk0:(0:Int)<=(k:Int):=by omega
   have hk1:(k:Int)<q.length:=by omega
   have ai:k+1<=maxLen:=by unfold maxLen;omega
   have K:∀ o,Tab (a.alloc o):=fun o=>Z.out.grown (iq (il H.out m.out))
   clear B;go_wp2_with fail
   refine(B2 t n _ (K _) b.1 b.2.1 b.2.2.1 b.2.2.2).mono ?_;rintro e w6 ⟨rfl,s⟩;have D:a.grownBy w6 none:=il (iq (ir _ _)) s;have U:Hid (w6.ownsRow c.heap.size 9 1 (.slice x1 x2 x3) k (strs (wordsS (q.take k)))):=iC r.out D (fun _ e=>by cases e);have I:Hid (c.grownBy w6 none):=il m.out D;have hsz6:=I.out.size;clear s D K;generalize wordS t n=wd at*;go_wp2_with (at_builtin;refine wpList_append_lies _ rfl _ _ _ rfl c.heap.size 9 i0 _ 1 16 Tryz.underlying24 al av aw ax rfl (by omega) (.slice x1 x2 x3) k (strs (wordsS (q.take k))) rfl (iG U.out) ⟨w6.heap.size,0,none⟩ 1 1 [.string ⟨wd.toArray⟩] rfl rfl (World.news_of_block (cs:= #[.string ⟨wd.toArray⟩]) (t:=9) (fr:=(0,0)) (heap_alloc_new w6 _)) (by simp [Value.oneCell']) (by omega) ai (by omega) (by simp;omega) (w6.heap.size+1) (by simp) ?_;intro g7 aa T S R aj hlt7)
   have Y:Hid (T.ownsRow c.heap.size 9 1 (.slice (some ⟨g7,0,none⟩) (k+1) aa) (k+1) (strs (wordsS (q.take (k+1))))/\c.grownBy T none):=by
    refine⟨?_,iZ (iq I.out) R (fun q e=>an q e)⟩;rw [M.out];exact S
   clear S R aj;go_wp2
   go_roundw
   case rel=>exact⟨k+1,by omega,by go_num,Y⟩
   case measure=>simp [intOf];omega
  ·have ek:k=q.length:=by omega
   have q2:(q.length:Int)<=(k:Int):=by omega
   subst ek;have h:=r.out;rw [List.take_length]at h;have ar:(wordsS q).length=q.length:=by simp [wordsS]
   have V:Hid (w.grownBy a none):=il H.out m.out;have X:Hid (Calls Tryz.prog 109 #[.slice x1 q.length x3,.string ⟨#[32]⟩] a fun e w'=>e= .returned (.string ⟨(Lib.join (wordsS q) [32]).toArray⟩)/\a.grownBy w' none):=by
    by_cases h0:q.length=0
    ·have ap:q=[]:=List.length_eq_zero_iff.1 h0;subst ap;refine(Tryz.strings_Join_none x1 x3 ⟨#[32]⟩ a).mono ?_;rintro e w' ⟨rfl,rfl⟩;exact⟨rfl,ir _ _⟩
    ·obtain⟨g,cp,d,_,Q⟩:=h.form (by omega);have hcp:q.length<=x3:=by
      rcases h.2 with ⟨_,f⟩ | ⟨_,_,_,f,_,_,e2,_⟩
      ·omega
      ·simp only [Value.slice.injEq]at f;omega
     have N:=h;rw [d]at N;simp only [Value.slice.injEq]at d;obtain⟨rfl,rfl,rfl⟩:=d;have:=Tryz.strings_Join g 0 x3 ((wordsS q).map fun x=>(⟨x.toArray⟩:ByteArray)) ⟨#[32]⟩ a (fun j x hj=>?_) Q (by simp;omega) (by simp;omega) ?_
     ·simp only [List.length_map,ar,List.map_map]at this;have f:((fun(x:ByteArray)=>x.data.toList) ∘ fun x:List UInt8=>(⟨x.toArray⟩:ByteArray))=id:=by funext x;rfl
      rw [f,List.map_id]at this;refine this.mono ?_;rintro e w' ⟨rfl,hb⟩;exact⟨rfl,js hb⟩
     ·have am:=(List.getElem?_eq_some_iff.1 hj).1;rw [Nat.zero_add,N.cellAt j (by simp at am;omega)];unfold strs;rw [List.getElem?_map]at hj ⊢;cases hw:(wordsS q)[j]? with
      | none=>rw [hw]at hj;cases hj
      | some u=>rw [hw]at hj;simp at hj;simp [hj]
     ·have:=yw (wordsS q) (fun x hx=>by
       simp only [wordsS,List.mem_map]at hx;obtain⟨y,G,rfl⟩:=hx;have:=L.out y G;exact zD this.1 this.2.1 this.2.2.1 this.2.2.2)
      have f:((fun(x:ByteArray)=>x.data.toList) ∘ fun x:List UInt8=>(⟨x.toArray⟩:ByteArray))=id:=by funext x;rfl
      rw [List.map_map,f,List.map_id];simp only at this ⊢;omega
   have au:=iB h;subst au;clear h r p;go_wp2_with (go_at_call 109;refine X.out.mono ?_;rintro e w6 ⟨rfl,s⟩)
   go_ret;exact⟨by rw [W.out];rfl,il V.out s⟩
theorem AI(l:List Int)(v:Value)(w:World)(d:Tab w)(b:IntsAt w.heap.size w v l):
  Calls Tryz.prog 47 #[v] w fun e w'=>w.grownBy w' none/\((validS l=true/\e= .returned (.tuple #[.string ⟨(printS l).toArray⟩,.int .i64 0]))\/(validS l=false/\e= .returned (.tuple #[.string ⟨#[]⟩,.int .i64 2]))):=by
 have i:=ij d;have c:=ij b;obtain⟨ao,cap,rfl⟩:=b.form;clear d b;go_enter Tryz.func47,Tryz.ntmps47
 go_wp2_with fail
 refine(vi l _ w c.out).mono ?_;rintro e k ⟨rfl,f⟩;have a:=ij f;clear f;cases hv:validS l with
 | false=>
  go_wp2_with fail
  refine bodyPost_ret (v:= .tuple #[.string ⟨#[]⟩,.int .i64 2]) (by simp [results,Tryz.results47,go_sem]) rfl ?_;exact⟨a.out,Or.inr ⟨hv,rfl⟩⟩
 | true=>
  have h:=ij (yX l _ k (i.out.grown a.out) ((c.out.pres (ip a.out)).mono a.out.size) hv);go_wp2_with (go_at_call 77;refine h.out.mono ?_;rintro e w2 ⟨rfl,j⟩)
  refine bodyPost_ret (v:= .tuple #[.string ⟨(printS l).toArray⟩,.int .i64 0]) (by simp [results,Tryz.results47,go_sem]) rfl ?_;exact⟨il a.out j,Or.inl ⟨hv,rfl⟩⟩
theorem wD(l:List Nat)(h:(parseP l).ok=true):(parseP l).at_=0:=by
 rw [mO]at h ⊢;unfold parseR at*;split at h<;>rename_i h1
 ·rw [if_pos h1]
 ·rw [if_neg h1];cases hw:wholeR (partsR l) (-1) []with
  | none=>rw [hw]at h;cases h
  | some x=>
   rw [hw]at h;simp only at h ⊢;split at h
   ·cases h
   ·rename_i h2;rw [if_neg h2]
theorem wE(l:List Nat)(h:(parseP l).ok=false):(parseP l).out=[]:=by
 rw [mO]at h ⊢;unfold parseR at*;split at h<;>rename_i h1
 ·cases h
 ·rw [if_neg h1];cases hw:wholeR (partsR l) (-1) []with
  | none=>rfl
  | some x=>
   rw [hw]at h;simp only at h ⊢;split at h
   ·rename_i h2;rw [if_pos h2]
   ·cases h
def parE(ok:Bool):Int:=if ok=true then 0 else 4
theorem AF(s:ByteArray)(w:World)(h:s.size<=9223372036854775806):
  Calls Tryz.prog 45 #[.string s] w fun e w'=>∃ x y z,e= .returned (.tuple #[.slice x y z,.int .i64 (parseP (byt s)).at_,.int .i64 (parE (parseP (byt s)).ok)])/\w'.ownsRow (w.heap.size+1) 3 1 (.slice x y z) (parseP (byt s)).out.length (ints (parseP (byt s)).out)/\w.grownBy w' none:=by
 go_enter Tryz.func45,Tryz.ntmps45
 go_wp2_with fail
 refine(yW s w h).mono ?_;rintro e w1 ⟨x,y,z,rfl,d,c⟩;have f:=ij d;have b:=ij c;clear d c;cases hok:(parseP (byt s)).ok with
 | true=>
  have a:(parseP (byt s)).at_=0:=by
   have:=(wD (byt s)) hok;exact this
  rw [a];go_wp2_with fail
  refine bodyPost_ret (v:= .tuple #[.slice x y z,.int .i64 0,.int .i64 0]) (by simp [results,Tryz.results45,go_sem]) rfl ?_;exact⟨x,y,z,by rw [a,hok];rfl,f.out,b.out⟩
 | false=>
  have a:=wE (byt s) hok;go_wp2_with fail
  refine bodyPost_ret (v:= .tuple #[.slice none 0 0,.int .i64 (parseP (byt s)).at_,.int .i64 4]) (by simp [results,Tryz.results45,go_sem]) rfl ?_;refine⟨none,0,0,by rw [hok];rfl,?_,b.out⟩;rw [a];exact⟨rfl,Or.inl ⟨rfl,rfl⟩⟩
theorem qD(s:ByteArray)(p:Nat->Bool)(k:Nat)(h:k<s.size):((byt s).take (k+1)).all p=(((byt s).take k).all p && p s[k].toNat):=by
 have a:k<(byt s).length:=by rw [iL];exact h
 rw [ju (byt s) p k a];have:(byt s)[k]=s[k].toNat:=by
  have:=jU s k h;rw [List.getElem?_eq_getElem a]at this;exact Option.some.inj this
 rw [this]
theorem tA(s:ByteArray):byt s=s.toList.map UInt8.toNat:=by rw [ByteArray.toList_eq];rfl
theorem xC(s:ByteArray)(l:List UInt8):byt s=l.map UInt8.toNat↔s.toList=l:=by
 rw [tA];constructor
 ·intro h;exact(List.map_inj_right (fun a b h=>UInt8.toNat_inj.1 h)).1 h
 ·intro h;rw [h]
theorem kK(s:ByteArray):byt s=[]↔s.toList=[]:=xC s []
theorem mf(s:ByteArray):byt s=[48]↔s.toList=[48]:=xC s [48]
theorem xB(s:ByteArray)(h:0<s.size):(byt s).head?=some s[0].toNat:=by
 rw [List.head?_eq_getElem?];exact jU s 0 h
theorem zl{s:ByteArray}(h:¬s.toList=[]):0<s.size:=by
 by_cases a:s.size=0
 ·exact absurd ((kK s).1 (List.length_eq_zero_iff.1 (by rw [iL];exact a))) h
 ·omega
theorem jF(s:ByteArray)(w:World)(hs:s.size<=9223372036854775806):
  Calls Tryz.prog 105 #[.string s] w fun e w'=>e= .returned (.bool (plainR (byt s)))/\w'=w:=by
 go_enter Tryz.func105,Tryz.ntmps105
 go_wp2
 go_loopw [3] (fun i w'=>∃ k:Nat,k<=s.size/\i= .int .i64 k/\Hid (w'=w)/\Hid (((byt s).take k).all isD=true)) (fun i _=>s.size - (intOf i).toNat)
 case atStart=>exact⟨0,Nat.zero_le _,rfl,rfl,rfl⟩
 case round=>
  obtain⟨k,hk,rfl,p,f⟩:=hrel;obtain rfl:=p.out;by_cases z:k<s.size
  ·have j:=ij (qD s isD k z);have hk0:(0:Int)<=(k:Int):=by omega
   have hk1:(k:Int)<s.size:=by omega
   have l:Hid (isD s[k].toNat=false->plainR (byt s)=false):=by
    intro h;have:((byt s).take (k+1)).all isD=false:=by rw [j.out,h];simp
    unfold plainR;rw [<-List.take_append_drop (k+1) (byt s),List.all_append,this];rfl
   by_cases m:s[k].toNat<48
   ·have n:((s[k].toNat:Nat):Int)<48:=by omega
    have a:=ij (l.out (by simp [isD];omega));go_wp2
    go_ret;exact⟨by rw [a.out];rfl,rfl⟩
   ·have n:¬((s[k].toNat:Nat):Int)<48:=by omega
    by_cases h1:s[k].toNat<=57
    ·have v:¬57<((s[k].toNat:Nat):Int):=by omega
     have c:Hid (((byt s).take (k+1)).all isD=true):=by unfold Hid;rw [j.out,f.out];simp [isD];omega
     go_wp2
     go_roundw
     case rel=>exact⟨k+1,by omega,by go_num,ij trivial,c⟩
     case measure=>simp [intOf];omega
    ·have v:57<((s[k].toNat:Nat):Int):=by omega
     have a:=ij (l.out (by simp [isD];omega));go_wp2
     go_ret;exact⟨by rw [a.out];rfl,rfl⟩
  ·have c:Hid ((byt s).all isD=true):=by
    have:=f.out;rw [List.take_of_length_le (by rw [iL];omega)]at this;exact this
   have q2:(s.size:Int)<=(k:Int):=by omega
   by_cases d:s.toList=[48]
   ·have a:Hid (plainR (byt s)=true):=by unfold Hid;rw [(mf s).2 d];rfl
    go_wp2_with fail
    go_ret;exact⟨by rw [a.out];rfl,rfl⟩
   ·by_cases b:s.toList=[]
    ·have a:Hid (plainR (byt s)=false):=by unfold Hid;rw [(kK s).2 b];rfl
     go_wp2_with fail
     go_ret;exact⟨by rw [a.out];rfl,rfl⟩
    ·have m:=zl b;have a:Hid (plainR (byt s)=(s.toList==[48] || (!s.toList.isEmpty && (((s[0].toNat:Nat):Int) !=48)))):=by
      unfold Hid plainR;have q:(byt s==[48])=false:=by simpa using fun e=>d ((mf s).1 e)
      have r:(byt s==[])=false:=by simpa using fun e=>b ((kK s).1 e)
      have t:(s.toList==[48])=false:=by simpa using d
      have u:s.toList.isEmpty=false:=by simpa using b
      rw [c.out,q,r,t,u,xB s m];by_cases o:s[0].toNat=48
      ·simp [o]
      ·have x:((s[0].toNat:Nat):Int)≠48:=by omega
       have y:(((s[0].toNat:Nat):Int) !=48)=true:=by simpa using x
       rw [y];simpa using o
     have n:(0:Int)<s.size:=by omega
     go_wp2_with fail
     all_goals
      go_ret;exact⟨by rw [a.out];rfl,rfl⟩
theorem uG(n:Int)(s:ByteArray)(k:Nat)(h:k<s.size):valueR n ((byt s).drop k)=if n<1000 then valueR (10*n+(((s[k].toNat+208) % 256:Nat):Int)) ((byt s).drop (k+1)) else min n 1000:=by
 rw [kD (jU s k h),valueR]
theorem xj(n:Int)(s:ByteArray)(k:Nat)(h:s.size<=k):valueR n ((byt s).drop k)=min n 1000:=by
 rw [List.drop_eq_nil_of_le (by rw [iL];exact h),valueR]
theorem jG(s:ByteArray)(w:World)(hs:s.size<=9223372036854775806):
  Calls Tryz.prog 106 #[.string s] w fun e w'=>e= .returned (.int .i64 (valueR 0 (byt s)))/\w'=w:=by
 go_enter Tryz.func106,Tryz.ntmps106
 go_wp2
 go_loopw [3,4] (fun v i w'=>∃ (k:Nat) (n:Int),k<=s.size/\i= .int .i64 k/\v= .int .i64 n/\Hid (w'=w)/\Hid (0<=n/\n<=20000/\valueR n ((byt s).drop k)=valueR 0 (byt s))) (fun _ i _=>s.size - (intOf i).toNat)
 case atStart=>exact⟨0,0,Nat.zero_le _,rfl,rfl,rfl,by simp [Hid]⟩
 case round=>
  obtain⟨k,n,hk,rfl,rfl,o,f⟩:=hrel;obtain rfl:=o.out;obtain⟨hn0,hn1,l⟩:=f.out;have c:=ij l;clear l f;by_cases q:k<s.size
  ·have hk0:(0:Int)<=(k:Int):=by omega
   have hk1:(k:Int)<s.size:=by omega
   have hb:=s[k].toNat_lt;have h:=ij (uG n s k q);by_cases j:n<1000
   ·have hu:IntKind.u8.wrap (((s[k].toNat:Nat):Int) - 48)=(((s[k].toNat+208) % 256:Nat):Int):=by
     simp only [IntKind.wrap,IntKind.signed,IntKind.bits];simp;omega
    have m:Hid (valueR (10*n+(((s[k].toNat+208) % 256:Nat):Int)) ((byt s).drop (k+1))=valueR 0 (byt s)):=by
     unfold Hid;rw [<-c.out,h.out,if_pos j]
    have hm:(s[k].toNat+208) % 256<256:=Nat.mod_lt _ (by decide);generalize ((s[k].toNat+208) % 256)=d at*;have hd0:(0:Int)<=(d:Int):=by omega
    have hd1:(d:Int)<256:=by omega
    go_wp2_with fail
    go_roundw
    case rel=>exact⟨k+1,_,by omega,by go_num,rfl,ij trivial,ij ⟨by omega,by omega,m.out⟩⟩
    case measure=>simp [intOf];omega
   ·have a:Hid (valueR 0 (byt s)=1000):=by unfold Hid;rw [<-c.out,h.out,if_neg j];omega
    by_cases p:1000<n
    ·go_wp2_with fail
     go_ret;exact⟨by rw [a.out];rfl,rfl⟩
    ·have b:Hid (n=1000):=by unfold Hid;omega
     go_wp2_with fail
     go_ret;exact⟨by rw [a.out,<-b.out];rfl,rfl⟩
  ·have a:Hid (valueR 0 (byt s)=min n 1000):=by unfold Hid;rw [<-c.out,xj n s k (by omega)]
   have q2:(s.size:Int)<=(k:Int):=by omega
   by_cases p:1000<n
   ·have b:Hid (min n 1000=1000):=by unfold Hid;omega
    go_wp2_with fail
    go_ret;exact⟨by rw [a.out,b.out];rfl,rfl⟩
   ·have b:Hid (min n 1000=n):=by unfold Hid;omega
    go_wp2_with fail
    go_ret;exact⟨by rw [a.out,b.out];rfl,rfl⟩
theorem kJ(s:ByteArray)(a b:Nat):byt (s.extract a b)=((byt s).take b).drop a:=by
 unfold byt;rw [ByteArray.data_extract,Array.toList_extract,List.extract_eq_take_drop,List.map_take,List.map_drop];rw [List.drop_take]
theorem Ah(l:List Nat)(k:Nat)(b:l[k]?=some 42)(h:∀ x∈l.take k,x≠42):halfA l=l.take k/\halfB l=l.drop (k+1)/\starR l=true:=by
 have e:l=l.take k++42::l.drop (k+1):=by rw [<-kD b,List.take_append_drop]
 have:=lP (bb:=l.drop (k+1)) h;rw [<-e]at this;exact this
theorem sn(s:ByteArray)(w:World)(hs:s.size<=9223372036854775806):
  Calls Tryz.prog 104 #[.string s] w fun e w'=>Like w' w/\∃ a b,e= .returned (.tuple #[.string a,.string b,.bool (starR (byt s))])/\byt a=halfA (byt s)/\byt b=halfB (byt s)/\a.size<=s.size/\b.size<=s.size:=by
 go_enter Tryz.func104,Tryz.ntmps104
 go_wp2
 go_loopw [5] (fun i w'=>∃ k:Nat,k<=s.size/\i= .int .i64 k/\Hid (w'=w)/\Hid (∀ x∈(byt s).take k,x≠42)) (fun i _=>s.size - (intOf i).toNat)
 case atStart=>exact⟨0,Nat.zero_le _,rfl,rfl,by simp [Hid]⟩
 case round=>
  obtain⟨k,hk,rfl,p,h⟩:=hrel;obtain rfl:=p.out;by_cases n:k<s.size
  ·have hk0:(0:Int)<=(k:Int):=by omega
   have hk1:(k:Int)<s.size:=by omega
   have hk2:(k:Int)<=s.size:=by omega
   have hk3:(k:Int)+1<=s.size:=by omega
   have l:=ij (jU s k n);by_cases f:s[k].toNat=42
   ·have j:((s[k].toNat:Nat):Int)=42:=by omega
    have h42'':(((s[k].toNat:Nat):Int)==42)=true:=by simpa using j
    have d:Hid (halfA (byt s)=(byt s).take k/\halfB (byt s)=(byt s).drop (k+1)/\starR (byt s)=true):=Ah _ k (by rw [l.out,f]) h.out;clear f j;go_wp2_with fail
    go_quiet (fail)
    go_wp2_with fail
    refine bodyPost_ret (v:= .tuple #[.string (s.extract 0 k),.string (s.extract (k+1) s.size),.bool true]) (by simp [results,Tryz.results104,go_sem]) rfl ?_;refine⟨jb (iT _) _,_,_,by rw [d.out.2.2],?_,?_,by simp<;>omega,by simp<;>omega⟩
    ·rw [d.out.1,kJ,List.drop_zero]
    ·rw [d.out.2.1,kJ,List.take_of_length_le (by rw [iL];exact Nat.le_refl _)]
   ·have j:((s[k].toNat:Nat):Int)≠42:=by omega
    have o:Hid (∀ x∈(byt s).take (k+1),x≠42):=by
     intro x c;have m:k<(byt s).length:=by rw [iL];exact n
     rw [List.take_succ_eq_append_getElem m]at c;rcases List.mem_append.1 c with c | c
     ·exact h.out x c
     ·have e:=l.out;rw [List.getElem?_eq_getElem m]at e;rw [Option.some.inj e]at c;simp at c;rw [c];exact f
    clear f;go_wp2_with fail
    go_roundw
    case rel=>exact⟨k+1,by omega,by go_num,ij trivial,o⟩
    case measure=>simp [intOf];omega
  ·have q2:(s.size:Int)<=(k:Int):=by omega
   have d:Hid (halfA (byt s)=byt s/\halfB (byt s)=[]/\starR (byt s)=false):=by
    have:=h.out;rw [List.take_of_length_le (by rw [iL];omega)]at this;exact lO this
   go_wp2_with fail
   refine bodyPost_ret (v:= .tuple #[.string s,.string ⟨#[]⟩,.bool false]) (by simp [results,Tryz.results104,go_sem]) rfl ?_;exact⟨iT _,s,⟨#[]⟩,by rw [d.out.2.2],d.out.1.symm,d.out.2.1.symm,Nat.le_refl _,Nat.zero_le _⟩
def runV(o:Option (Int × Int)):Value:=match o with
 | none=> .tuple #[.int .i64 0,.int .i64 0,.bool false]
 | some (t,n)=> .tuple #[.int .i64 t,.int .i64 n,.bool true]
theorem BS(s:ByteArray)(c:Int)(w:World)(r:s.size<=9223372036854775806):
  Calls Tryz.prog 103 #[.string s,.int .i64 c] w fun e w'=>Like w' w/\e= .returned (runV (runR (byt s) c)):=by
 go_enter Tryz.func103,Tryz.ntmps103
 go_wp2_with fail
 refine(sn s w r).mono ?_;rintro e w1 ⟨p,a,b,rfl,n,o,t,u⟩;have f:=ij p;have m:runR (byt s) c=if (!plainR (byt a) || decide (63<valueR 0 (byt a)) || (valueR 0 (byt a)==c))=true then none
  else if (starR (byt s) && (!plainR (byt b) || decide (valueR 0 (byt b)<2)))=true then none
  else if starR (byt s)=true then some (valueR 0 (byt a),valueR 0 (byt b)) else some (valueR 0 (byt a),1):=by rw [n,o];rfl
 have hza:a.size<=9223372036854775806:=by omega
 have hzb:b.size<=9223372036854775806:=by omega
 have i:=ij m;clear p n o t u r m;cases hpa:plainR (byt a)with
 | false=>
  have d:Hid (runR (byt s) c=none):=by unfold Hid;rw [i.out,hpa];simp
  go_wp2_with (first | (go_at_call 105;refine(jF _ _ (by assumption)).mono ?_;rintro e w' ⟨rfl,rfl⟩;first | rw [hpa]) | (go_at_call 106;refine(jG _ _ (by assumption)).mono ?_;rintro e w' ⟨rfl,rfl⟩))
  refine bodyPost_ret (v:= .tuple #[.int .i64 0,.int .i64 0,.bool false]) (by simp [results,Tryz.results103,go_sem]) rfl ?_;exact⟨f.out,by rw [d.out];rfl⟩
 | true=>
  by_cases l:63<valueR 0 (byt a)
  ·have d:Hid (runR (byt s) c=none):=by unfold Hid;rw [i.out,hpa];simp [l]
   go_wp2_with (first | (go_at_call 105;refine(jF _ _ (by assumption)).mono ?_;rintro e w' ⟨rfl,rfl⟩;first | rw [hpa]) | (go_at_call 106;refine(jG _ _ (by assumption)).mono ?_;rintro e w' ⟨rfl,rfl⟩))
   refine bodyPost_ret (v:= .tuple #[.int .i64 0,.int .i64 0,.bool false]) (by simp [results,Tryz.results103,go_sem]) rfl ?_;exact⟨f.out,by rw [d.out];rfl⟩
  ·by_cases h:valueR 0 (byt a)=c
   ·have d:Hid (runR (byt s) c=none):=by unfold Hid;rw [i.out,hpa];simp [h]
    have q:(valueR 0 (byt a)==c)=true:=by simpa using h
    clear h;go_wp2_with (first | (go_at_call 105;refine(jF _ _ (by assumption)).mono ?_;rintro e w' ⟨rfl,rfl⟩;first | rw [hpa]) | (go_at_call 106;refine(jG _ _ (by assumption)).mono ?_;rintro e w' ⟨rfl,rfl⟩))
    refine bodyPost_ret (v:= .tuple #[.int .i64 0,.int .i64 0,.bool false]) (by simp [results,Tryz.results103,go_sem]) rfl ?_;exact⟨f.out,by rw [d.out];rfl⟩
   ·have q:(valueR 0 (byt a)==c)=false:=by simpa using h
    have j:Hid (runR (byt s) c=if (starR (byt s) && (!plainR (byt b) || decide (valueR 0 (byt b)<2)))=true then none else if starR (byt s)=true then some (valueR 0 (byt a),valueR 0 (byt b)) else some (valueR 0 (byt a),1)):=by
     unfold Hid;rw [i.out,q,hpa];have:decide (63<valueR 0 (byt a))=false:=by simpa using l
     rw [this];simp
    clear h;cases hst:starR (byt s)with
    | false=>
     have d:Hid (runR (byt s) c=some (valueR 0 (byt a),1)):=by unfold Hid;rw [j.out,hst];simp
     cases hpb:plainR (byt b)with
     | true=>
      go_wp2_with (first | (go_at_call 105;refine(jF _ _ (by assumption)).mono ?_;rintro e w' ⟨rfl,rfl⟩;first | rw [hpa] | rw [hpb]) | (go_at_call 106;refine(jG _ _ (by assumption)).mono ?_;rintro e w' ⟨rfl,rfl⟩))
      refine bodyPost_ret (v:= .tuple #[.int .i64 (valueR 0 (byt a)),.int .i64 1,.bool true]) (by simp [results,Tryz.results103,go_sem]) rfl ?_;exact⟨f.out,by rw [d.out];rfl⟩
     | false=>
      go_wp2_with (first | (go_at_call 105;refine(jF _ _ (by assumption)).mono ?_;rintro e w' ⟨rfl,rfl⟩;first | rw [hpa] | rw [hpb]) | (go_at_call 106;refine(jG _ _ (by assumption)).mono ?_;rintro e w' ⟨rfl,rfl⟩))
      refine bodyPost_ret (v:= .tuple #[.int .i64 (valueR 0 (byt a)),.int .i64 1,.bool true]) (by simp [results,Tryz.results103,go_sem]) rfl ?_;exact⟨f.out,by rw [d.out];rfl⟩
    | true=>
     cases hpb:plainR (byt b)with
     | false=>
      have d:Hid (runR (byt s) c=none):=by unfold Hid;rw [j.out,hst,hpb];simp
      go_wp2_with (first | (go_at_call 105;refine(jF _ _ (by assumption)).mono ?_;rintro e w' ⟨rfl,rfl⟩;first | rw [hpa] | rw [hpb]) | (go_at_call 106;refine(jG _ _ (by assumption)).mono ?_;rintro e w' ⟨rfl,rfl⟩))
      refine bodyPost_ret (v:= .tuple #[.int .i64 0,.int .i64 0,.bool false]) (by simp [results,Tryz.results103,go_sem]) rfl ?_;exact⟨f.out,by rw [d.out];rfl⟩
     | true=>
      by_cases k:valueR 0 (byt b)<2
      ·have d:Hid (runR (byt s) c=none):=by unfold Hid;rw [j.out,hst,hpb];simp [k]
       go_wp2_with (first | (go_at_call 105;refine(jF _ _ (by assumption)).mono ?_;rintro e w' ⟨rfl,rfl⟩;first | rw [hpa] | rw [hpb]) | (go_at_call 106;refine(jG _ _ (by assumption)).mono ?_;rintro e w' ⟨rfl,rfl⟩))
       refine bodyPost_ret (v:= .tuple #[.int .i64 0,.int .i64 0,.bool false]) (by simp [results,Tryz.results103,go_sem]) rfl ?_;exact⟨f.out,by rw [d.out];rfl⟩
      ·have d:Hid (runR (byt s) c=some (valueR 0 (byt a),valueR 0 (byt b))):=by unfold Hid;rw [j.out,hst,hpb];simp [k]
       go_wp2_with (first | (go_at_call 105;refine(jF _ _ (by assumption)).mono ?_;rintro e w' ⟨rfl,rfl⟩;first | rw [hpa] | rw [hpb]) | (go_at_call 106;refine(jG _ _ (by assumption)).mono ?_;rintro e w' ⟨rfl,rfl⟩))
       refine bodyPost_ret (v:= .tuple #[.int .i64 (valueR 0 (byt a)),.int .i64 (valueR 0 (byt b)),.bool true]) (by simp [results,Tryz.results103,go_sem]) rfl ?_;exact⟨f.out,by rw [d.out];rfl⟩
theorem wM(s:ByteArray)(c:Int)(w:World)(u:s.size<=9223372036854775806):
  Calls Tryz.prog 75 #[.string s,.int .i64 c] w fun e w'=>Like w' w/\e= .returned (.bool (beginsR (byt s) c)):=by
 go_enter Tryz.func75,Tryz.ntmps75
 go_wp2_with fail
 refine(sn s w u).mono ?_;rintro e w1 ⟨t,a,b,rfl,o,p,x,y⟩;have f:=ij t;by_cases k:s.toList=[]
 ·have i:Hid (beginsR (byt s) c=true):=by unfold Hid;rw [(kK s).2 k];rfl
  clear t o p x y u;generalize starR (byt s)=st at*;go_wp2_with fail
  go_ret;exact⟨f.out,by rw [i.out];rfl⟩
 ·have q:(byt b=[])↔b.toList=[]:=kK b;have r:(byt b=[48])↔b.toList=[48]:=mf b;have n:beginsR (byt s) c=if (!plainR (byt a) || decide (63<valueR 0 (byt a)))=true then false
   else if starR (byt s)=true then !(valueR 0 (byt a)==c) && ((byt b==[]) || (plainR (byt b) && !(byt b==[48])))
   else !(valueR 0 (byt a)==c) || (decide (1<=valueR 0 (byt a)) && decide (valueR 0 (byt a)<=6)):=by
   conv=>lhs;unfold beginsR
   rw [if_neg (fun e=>k ((kK s).1 e)),o,p]
  have z:(byt b==[])=b.toList.isEmpty:=by
   by_cases h:b.toList=[]
   ·rw [q.2 h,h];rfl
   ·have l:byt b≠[]:=fun e=>h (q.1 e)
    have m:b.toList.isEmpty=false:=by simpa using h
    rw [m];simpa using l
  have A:(byt b==[48])=(b.toList==[48]):=by
   by_cases h:b.toList=[48]
   ·rw [r.2 h,h];rfl
   ·have l:byt b≠[48]:=fun e=>h (r.1 e)
    have m:(b.toList==[48])=false:=by simpa using h
    rw [m];simpa using l
  rw [z,A]at n;have hza:a.size<=9223372036854775806:=by omega
  have hzb:b.size<=9223372036854775806:=by omega
  have j:=ij n;have hie:s.toList.isEmpty=false:=by simpa using k
  clear t o p x y u q r z A n k;cases hpa:plainR (byt a)with
  | false=>
   have i:Hid (beginsR (byt s) c=false):=by unfold Hid;rw [j.out,hpa];simp
   go_wp2_with (first | (go_at_call 105;refine(jF _ _ (by assumption)).mono ?_;rintro e w' ⟨rfl,rfl⟩;first | rw [hpa]) | (go_at_call 106;refine(jG _ _ (by assumption)).mono ?_;rintro e w' ⟨rfl,rfl⟩))
   go_ret;exact⟨f.out,by rw [i.out];rfl⟩
  | true=>
   by_cases v:63<valueR 0 (byt a)
   ·have i:Hid (beginsR (byt s) c=false):=by unfold Hid;rw [j.out,hpa];simp [v]
    go_wp2_with (first | (go_at_call 105;refine(jF _ _ (by assumption)).mono ?_;rintro e w' ⟨rfl,rfl⟩;first | rw [hpa]) | (go_at_call 106;refine(jG _ _ (by assumption)).mono ?_;rintro e w' ⟨rfl,rfl⟩))
    go_ret;exact⟨f.out,by rw [i.out];rfl⟩
   ·have d:Hid (beginsR (byt s) c=if starR (byt s)=true then !(valueR 0 (byt a)==c) && (b.toList.isEmpty || (plainR (byt b) && !(b.toList==[48]))) else !(valueR 0 (byt a)==c) || (decide (1<=valueR 0 (byt a)) && decide (valueR 0 (byt a)<=6))):=by
     unfold Hid;rw [j.out,hpa];have:decide (63<valueR 0 (byt a))=false:=by simpa using v
     rw [this];simp
    clear j;cases hst:starR (byt s)with
    | false=>
     rw [hst]at d;simp only [Bool.false_eq_true,if_false]at d;go_wp2_with (first | (go_at_call 105;refine(jF _ _ (by assumption)).mono ?_;rintro e w' ⟨rfl,rfl⟩;first | rw [hpa]) | (go_at_call 106;refine(jG _ _ (by assumption)).mono ?_;rintro e w' ⟨rfl,rfl⟩))
     all_goals
      go_ret;refine⟨f.out,?_⟩;rw [d.out];simp [*]<;>first | rfl | omega
    | true=>
     rw [hst]at d;simp only [if_true]at d;cases hpb:plainR (byt b)with
     | true=>
      rw [hpb]at d;go_wp2_with (first | (go_at_call 105;refine(jF _ _ (by assumption)).mono ?_;rintro e w' ⟨rfl,rfl⟩;first | rw [hpa] | rw [hpb]) | (go_at_call 106;refine(jG _ _ (by assumption)).mono ?_;rintro e w' ⟨rfl,rfl⟩))
      all_goals
       go_ret;refine⟨f.out,?_⟩;rw [d.out];simp [*]<;>first | rfl | omega
     | false=>
      rw [hpb]at d;go_wp2_with (first | (go_at_call 105;refine(jF _ _ (by assumption)).mono ?_;rintro e w' ⟨rfl,rfl⟩;first | rw [hpa] | rw [hpb]) | (go_at_call 106;refine(jG _ _ (by assumption)).mono ?_;rintro e w' ⟨rfl,rfl⟩))
      all_goals
       go_ret;refine⟨f.out,?_⟩;rw [d.out];simp [*]<;>first | rfl | omega
def strV(L:List ByteArray):List Value:=L.map fun x=> .string x
theorem mG(s:ByteArray)(f k:Nat)(_hf:f<=k):byt (s.extract f k)=((byt s).drop f).take (k - f):=by
 rw [kJ,List.drop_take]
structure PtsIn(s:ByteArray)(D:List ByteArray)(f k:Nat):Prop where
 le:k<=s.size
 fk:f<=k
 no:∀ x∈((byt s).drop f).take (k - f),x≠32
 eq:partsR (byt s)=D.map byt++partsR ((byt s).drop f)
 sz:∀ x∈D,x.size<=s.size
 ln:D.length<=f
theorem PtsIn.cut{s:ByteArray}{D:List ByteArray}{f k:Nat}(h:PtsIn s D f k)(i:(byt s)[k]?=some 32)(hlt:k<s.size):PtsIn s (D++[s.extract f k]) (k+1) (k+1):=by
 have d:=h.fk;refine⟨by omega,Nat.le_refl _,by simp,?_,?_,by have:=h.ln;simp;omega⟩
 ·rw [h.eq,List.map_append,List.append_assoc];congr 1
  have e:(byt s).drop f=((byt s).drop f).take (k - f)++32::(byt s).drop (k+1):=by
   have b:=kD i;have c:((byt s).drop f).drop (k - f)=(byt s).drop k:=by rw [List.drop_drop];congr 1;omega
   conv=>lhs;rw [<-List.take_append_drop (k - f) ((byt s).drop f),c,b]
  rw [e,nx _ _ h.no];simp [mG s f k d]
 ·intro x a;rcases List.mem_append.1 a with a | a
  ·exact h.sz x a
  ·simp at a;rw [a];simp;omega
theorem PtsIn.step{s:ByteArray}{D:List ByteArray}{f k:Nat}(h:PtsIn s D f k)(i:k<s.size)(d:s[k].toNat≠32):PtsIn s D f (k+1):=by
 have hf:=h.fk;refine⟨by omega,by omega,?_,h.eq,h.sz,h.ln⟩;intro x a;have c:k - f<((byt s).drop f).length:=by rw [List.length_drop,iL];omega
 have e:k+1 - f=(k - f)+1:=by omega
 rw [e,List.take_succ_eq_append_getElem c]at a;rcases List.mem_append.1 a with a | a
 ·exact h.no x a
 ·have b:((byt s).drop f)[k - f]?=some s[k].toNat:=by
   rw [List.getElem?_drop,show f+(k - f)=k by omega];exact jU s k i
  rw [List.getElem?_eq_getElem c]at b;rw [Option.some.inj b]at a;simp at a;rw [a];exact d
theorem PtsIn.fin{s:ByteArray}{D:List ByteArray}{f:Nat}(h:PtsIn s D f s.size):partsR (byt s)=(D++[s.extract f s.size]).map byt/\(∀ x∈D++[s.extract f s.size],x.size<=s.size)/\(D++[s.extract f s.size]).length<=s.size+1:=by
 have d:=h.fk;have c:=h.no;have b:((byt s).drop f).take (s.size - f)=(byt s).drop f:=List.take_of_length_le (by rw [List.length_drop,iL];omega);rw [b]at c;refine⟨?_,?_,by have:=h.ln;simp;omega⟩
 ·rw [h.eq,nw _ c,List.map_append];simp [mG s f s.size d,b]
 ·intro x a;rcases List.mem_append.1 a with a | a
  ·exact h.sz x a
  ·simp at a;rw [a];simp
theorem AG(s:ByteArray)(w:World)(hs:s.size<=1048576):
  Calls Tryz.prog 74 #[.string s] w fun e w'=>∃ (L:List ByteArray) (x:Option Addr) (z:Nat),e= .returned (.slice x L.length z)/\L.map byt=partsR (byt s)/\(∀ y∈L,y.size<=s.size)/\w'.ownsRow w.heap.size 9 1 (.slice x L.length z) L.length (strV L)/\w.grownBy w' none:=by
 obtain⟨I,C,E,G,H⟩:=info_parts sx;have J:Hid (PtsIn s [] 0 0):=⟨by omega,by omega,by simp,by simp,by simp,by simp⟩;go_enter Tryz.func74,Tryz.ntmps74
 go_wp2_with fail
 go_loopw [3,4,5] (fun lv fv i w'=>∃ (D:List ByteArray) (f k:Nat),i= .int .i64 k/\fv= .int .i64 f/\k<=s.size+1/\Hid (PtsIn s D f k\/(k=s.size+1/\D.map byt=partsR (byt s)/\(∀ y∈D,y.size<=s.size)))/\Hid (D.length<=k)/\Hid (w'.ownsRow w.heap.size 9 1 lv D.length (strV D)/\w.grownBy w' none)) (fun _ _ i _=>s.size+1 - (intOf i).toNat)
 case atStart=>exact⟨[],0,0,rfl,rfl,by omega,ij (Or.inl J.out),ij (by simp),⟨rfl,Or.inl ⟨rfl,rfl⟩⟩,ir _ _⟩
 case round=>
  obtain⟨D,f,k,rfl,rfl,hk,o,K,b⟩:=hrel;obtain⟨a,V⟩:∃ a,a=wr:=⟨_,rfl⟩;subst V;obtain⟨x1,x2,x3,rfl⟩:=iw b.out.1;have W:=iB b.out.1;subst W;have h:=ij b.out.1;have n:=ij b.out.2;have hsz2:=b.out.2.size;have U:=iA h.out;have hDl:=K.out;have B:D.length+1<=maxLen:=by unfold maxLen;omega
  rcases o.out with hp | ⟨hk1,hd1,hd2⟩
  ·have p:=ij hp;have S:=hp.le;have hfk:=hp.fk;have X:(k:Int)<=s.size:=by omega
   have q1:(0:Int)<=(f:Int):=by omega
   have q2:(f:Int)<=k:=by omega
   have A:Hid (∀ (w6:World) (g6 c:Nat),w6.ownsRow w.heap.size 9 1 (.slice (some ⟨g6,0,none⟩) (D.length+1) c) (D.length+1) (strV D++[.string (s.extract f k)])->(a.alloc (.cells #[.string (s.extract f k)] 9)).grownBy w6 (Value.slice x1 D.length x3).ownBlock->w6.ownsRow w.heap.size 9 1 (.slice (some ⟨g6,0,none⟩) (D.length+1) c) (D++[s.extract f k]).length (strV (D++[s.extract f k]))/\w.grownBy w6 none):=by
    intro w6 g6 c P Q;refine⟨?_,iZ (iq n.out) Q (fun q e=>U q e)⟩;simpa [strV]using P
   clear hp o b;by_cases v:k<s.size
   ·have q3:(k:Int)<s.size:=by omega
    have Y:((k:Int)==(s.size:Int))=false:=by simp;omega
    by_cases m:s[k].toNat=32
    ·have R:(((s[k].toNat:Nat):Int)==32)=true:=by simp;omega
     have d:Hid (PtsIn s (D++[s.extract f k]) (k+1) (k+1)):=p.out.cut (by rw [jU s k v,m]) v;clear m;go_wp2_with (at_builtin;refine wpList_append_lies _ rfl _ _ _ rfl w.heap.size 9 I _ 1 16 Tryz.underlying24 C E G H rfl (by omega) (.slice x1 D.length x3) D.length (strV D) rfl (iG h.out) ⟨a.heap.size,0,none⟩ 1 1 [.string (s.extract f k)] rfl rfl (World.news_of_block (cs:= #[.string (s.extract f k)]) (t:=9) (fr:=(0,0)) (heap_alloc_new a _)) (by simp [Value.oneCell']) (by omega) B (by omega) (by simp;omega) (a.heap.size+1) (by simp) ?_;intro g6 c w6 l j u T;have F:=ij (A.out w6 g6 c l j);clear l j u)
     go_roundw
     case rel=>exact⟨D++[s.extract f k],k+1,k+1,by go_num,by go_num,by omega,ij (Or.inl d.out),ij (by simp;omega),F⟩
     case measure=>simp [intOf];omega
    ·have R:(((s[k].toNat:Nat):Int)==32)=false:=by simp;omega
     have d:Hid (PtsIn s D f (k+1)):=p.out.step v m;clear m;go_wp2_with fail
     go_roundw
     case rel=>exact⟨D,f,k+1,by go_num,rfl,by omega,ij (Or.inl d.out),ij (by omega),h.out,n.out⟩
     case measure=>simp [intOf];omega
   ·have r:k=s.size:=by omega
    have Y:((k:Int)==(s.size:Int))=true:=by simp;omega
    have q5:k<=s.size:=S;have d:Hid (partsR (byt s)=(D++[s.extract f k]).map byt/\(∀ x∈D++[s.extract f k],x.size<=s.size)/\(D++[s.extract f k]).length<=s.size+1):=by
     have:=p.out;rw [r]at this ⊢;exact this.fin
    have N:=ij r;clear r;go_wp2_with (at_builtin;refine wpList_append_lies _ rfl _ _ _ rfl w.heap.size 9 I _ 1 16 Tryz.underlying24 C E G H rfl (by omega) (.slice x1 D.length x3) D.length (strV D) rfl (iG h.out) ⟨a.heap.size,0,none⟩ 1 1 [.string (s.extract f k)] rfl rfl (World.news_of_block (cs:= #[.string (s.extract f k)]) (t:=9) (fr:=(0,0)) (heap_alloc_new a _)) (by simp [Value.oneCell']) (by omega) B (by omega) (by simp;omega) (a.heap.size+1) (by simp) ?_;intro g6 c w6 l j u T;have F:=ij (A.out w6 g6 c l j);clear l j u)
    go_roundw
    case rel=>exact⟨D++[s.extract f k],k+1,k+1,by go_num,by go_num,by omega,ij (Or.inr ⟨by rw [N.out],d.out.1.symm,d.out.2.1⟩),ij (by simp;omega),F⟩
    case measure=>simp [intOf];omega
  ·have X:(s.size:Int)<k:=by omega
   have M:=ij hd1;have O:=ij hd2;clear hd1 hd2 hk1 o b;go_wp2_with fail
   go_ret;exact⟨D,x1,x3,rfl,M.out,O.out,h.out,n.out⟩
def StrsAt(w:World)(v:Value)(L:List ByteArray):Prop:=
 ∃ ao cap,v= .slice ao L.length cap/\∀ k (hk:k<L.length),∃ g o,ao=some ⟨g,o,none⟩/\w.cell? ⟨g,o+k,none⟩=some (.string L[k])
theorem StrsAt.pres{w w':World}{v:Value}{L:List ByteArray}(h:StrsAt w v L)(f:Pres w w'):StrsAt w' v L:=by
 obtain⟨a,b,e,hc⟩:=h;exact⟨a,b,e,fun k hk=>by obtain⟨g,o,d,c⟩:=hc k hk;exact⟨g,o,d,f _ _ c⟩⟩
theorem wC{w:World}{base:Nat}{x:Option Addr}{z:Nat}{L:List ByteArray}(h:w.ownsRow base 9 1 (.slice x L.length z) L.length (strV L)):StrsAt w (.slice x L.length z) L:=by
 rcases h.2 with ⟨e,e0⟩ | ⟨g,cap,cur,hv,hb,hh,hc,_⟩
 ·exact⟨x,z,rfl,fun k hk=>by omega⟩
 ·simp only [Value.slice.injEq,true_and]at hv;obtain⟨rfl,rfl⟩:=hv;refine⟨some ⟨g,0,none⟩,z,rfl,fun k hk=>⟨g,0,rfl,?_⟩⟩;rw [Nat.zero_add,h.cellAt k (by omega)];simp [strV,hk]
theorem StrsAt.init{w:World}{x:Option Addr}{z:Nat}{L:List ByteArray}(h:StrsAt w (.slice x L.length z) L)(m:Nat)(d:m<=L.length):StrsAt w (.slice x m z) (L.take m):=by
 obtain⟨ao,cap,e,hc⟩:=h;simp only [Value.slice.injEq,true_and]at e;obtain⟨rfl,rfl⟩:=e;refine⟨x,z,by simp [Nat.min_eq_left d],fun k hk=>?_⟩;have b:k<L.length:=by simp at hk;omega
 obtain⟨g,o,a,c⟩:=hc k b;exact⟨g,o,a,by simpa using c⟩
theorem vQ(out:List Int)(t n:Int)(hn:0<n)(ho:out.length<=500):fillR (out++[t]) t (n - 1)=fillR out t n:=by
 unfold fillR;have e:min n.toNat (501 - out.length)=min (n - 1).toNat (501 - (out++[t]).length)+1:=by simp;omega
 rw [e,List.replicate_succ,List.append_assoc];rfl
theorem sh(out:List Int)(t n:Int)(h:¬(0<n/\out.length<=500)):fillR out t n=out:=by
 unfold fillR;have e:min n.toNat (501 - out.length)=0:=by omega
 rw [e];simp
theorem zC(l:List Nat):∀ n,valueR n l<=1000:=by
 induction l with
 | nil=>intro n;unfold valueR;omega
 | cons b r ih=>
  intro n;unfold valueR;split
  ·exact ih _
  ·omega
theorem BU{l:List Nat}{a t n:Int}(h:runR l a=some (t,n)):n<=1000:=by
 unfold runR at h;split at h
 ·cases h
 ·split at h
  ·cases h
  ·split at h
   ·simp only [Option.some.injEq,Prod.mk.injEq]at h;rw [<-h.2];exact zC _ _
   ·simp only [Option.some.injEq,Prod.mk.injEq]at h;omega
def wholeV(o:Option (List Int × Int))(v:Value):Value:=match o with
 | none=> .tuple #[.slice none 0 0,.int .i64 0,.bool false]
 | some (_,a)=> .tuple #[v,.int .i64 a,.bool true]
def outOf(o:Option (List Int × Int)):List Int:=match o with
 | none=>[]
 | some (l,_)=>l
def WholeAt(L:List (List Nat))(w:World)(e:Ending)(w':World):Prop:=
 ∃ x y z,e= .returned (wholeV (wholeR L (-1) []) (.slice x y z))/\w'.ownsRow w.heap.size 3 1 (.slice x y z) (outOf (wholeR L (-1) [])).length (ints (outOf (wholeR L (-1) [])))/\w.grownBy w' none/\(outOf (wholeR L (-1) [])).length<=501
theorem vj(L:List ByteArray)(v:Value)(w:World)(Z:StrsAt w v L)(O:∀ x∈L,x.size<=9223372036854775806)(hln:L.length<=9223372036854775806):
  Calls Tryz.prog 73 #[v] w (WholeAt (L.map byt) w):=by
 obtain⟨i0,ab,al,am,an⟩:=info_parts ji;obtain⟨ao,cap,rfl,hc⟩:=Z;have S:=ij hc;have V:=ij O;clear hc O;go_enter Tryz.func73,Tryz.ntmps73
 go_wp2_with fail
 go_loopw [5,6,7] (fun ov av i w'=>∃ (out:List Int) (c:Int) (k:Nat),k<=L.length/\i= .int .i64 k/\av= .int .i64 c/\Hid (wholeR ((L.map byt).drop k) c out=wholeR (L.map byt) (-1) [])/\Hid (out.length<=501)/\Hid (w'.ownsRow w.heap.size 3 1 ov out.length (ints out)/\w.grownBy w' none)) (fun _ _ i _=>L.length - (intOf i).toNat)
 case atStart=>exact⟨[], -1,0,Nat.zero_le _,rfl,rfl,by simp [Hid],ij (by simp),⟨rfl,Or.inl ⟨rfl,rfl⟩⟩,ir _ _⟩
 case round=>
  obtain⟨out,c,k,hk,rfl,rfl,j,F,b⟩:=hrel;obtain⟨A,ag⟩:∃ A,A=wr:=⟨_,rfl⟩;subst ag;obtain⟨x1,x2,x3,rfl⟩:=iw b.out.1;have aj:=iB b.out.1;subst aj;have B:=ij b.out.1;have p:=ij b.out.2;have M:=F.out;by_cases z:k<L.length
  ·obtain⟨g,o,rfl,c0⟩:=S.out k z;have d0:=ip p.out _ _ c0;have hk0:(0:Int)<=(k:Int):=by omega
   have hk1:(k:Int)<L.length:=by omega
   have ac:k<(L.map byt).length:=by simpa using z
   have u:Hid (wholeR ((L.map byt).drop k) c out=match runR (byt L[k]) c with | none=>none | some (t,n)=>wholeR ((L.map byt).drop (k+1)) t (fillR out t n)):=by
    unfold Hid;rw [List.drop_eq_getElem_cons ac,wholeR];simp only [List.getElem_map];cases runR (byt L[k]) c<;>rfl
   have G:=ij (BS L[k] c A (V.out _ (List.getElem_mem z)));clear c0 b F;generalize J:runR (byt L[k]) c=R at*;generalize L[k]=sk at*;go_wp2_with fail
   refine G.out.mono ?_;clear G;rintro e w6 ⟨y,rfl⟩;have Q:Hid (w6.ownsRow w.heap.size 3 1 (.slice x1 out.length x3) out.length (ints out)):=iC B.out (iH (r:=none) y) (fun _ e=>by cases e);have C:Hid (w.grownBy w6 none):=iR p.out y;clear y;cases R with
   | none=>
    simp only [runV];have d:Hid (wholeR (L.map byt) (-1) []=none):=by unfold Hid;rw [<-j.out,u.out]
    go_wp2_with fail
    refine bodyPost_ret (v:= .tuple #[.slice none 0 0,.int .i64 0,.bool false]) (by simp [results,Tryz.results73,go_sem]) rfl ?_;refine⟨none,0,0,by rw [d.out];rfl,?_,C.out,?_⟩
    ·rw [d.out];exact⟨rfl,Or.inl ⟨rfl,rfl⟩⟩
    ·rw [d.out];simp [outOf]
   | some tn=>
    obtain⟨t,n⟩:=tn;simp only [runV];have E:Hid (wholeR ((L.map byt).drop (k+1)) t (fillR out t n)=wholeR (L.map byt) (-1) []):=by unfold Hid;rw [<-j.out,u.out]
    have hn1000:=BU J;clear u j J;go_wp2_with fail
    go_loopw [5,9] (fun ov nv w'=>∃ (a:List Int) (n':Int),nv= .int .i64 n'/\Hid (n'<=n/\fillR a t n'=fillR out t n/\a.length<=501)/\Hid (w'.ownsRow w.heap.size 3 1 ov a.length (ints a)/\w.grownBy w' none)) (fun _ nv _=>(intOf nv).toNat)
    case atStart=>exact⟨out,n,rfl,ij ⟨by omega,rfl,M⟩,Q.out,C.out⟩
    case round=>
     obtain⟨a,n',rfl,D,b⟩:=hrel;obtain⟨f,ai⟩:∃ f,f=wr:=⟨_,rfl⟩;subst ai;obtain⟨y1,y2,y3,rfl⟩:=iw b.out.1;have ak:=iB b.out.1;subst ak;obtain⟨f1,H,I⟩:=D.out;have h:=ij b.out.1;have m:=ij b.out.2;have hsz7:=b.out.2.size;have af:=iA h.out;have l:=ij H;clear D b H;have Y:a.length+1<=maxLen:=by unfold maxLen;omega
     by_cases ad:0<n'
     ·by_cases ae:a.length<=500
      ·have q5:(a.length:Int)<=500:=by omega
       have T:Hid (fillR (a++[t]) t (n' - 1)=fillR out t n):=by unfold Hid;rw [vQ a t n' ad ae];exact l.out
       go_wp2_with (at_builtin;refine wpList_append_lies _ rfl _ _ _ rfl w.heap.size 3 i0 _ 1 8 Tryz.underlying39 ab al am an rfl (by omega) (.slice y1 a.length y3) a.length (ints a) rfl (iG h.out) ⟨f.heap.size,0,none⟩ 1 1 [.int .i64 t] rfl rfl (World.news_of_block (cs:= #[.int .i64 t]) (t:=3) (fr:=(0,0)) (heap_alloc_new f _)) (by simp [Value.oneCell']) (by omega) Y (by omega) (by simp;omega) (f.heap.size+1) (by simp) ?_;intro X W P N K aa hlt8)
       have U:Hid (P.ownsRow w.heap.size 3 1 (.slice (some ⟨X,0,none⟩) (a.length+1) W) (a++[t]).length (ints (a++[t]))/\w.grownBy P none):=by
        refine⟨?_,iZ (iq m.out) K (fun q e=>af q e)⟩;simpa [ints]using N
       clear N K aa;go_wp2
       go_roundw
       case rel=>exact⟨a++[t],n' - 1,rfl,ij ⟨by omega,T.out,by simp;omega⟩,U⟩
       case measure=>simp [intOf];omega
      ·have q5:¬(a.length:Int)<=500:=by omega
       have s:Hid (a=fillR out t n):=by unfold Hid;rw [<-l.out,sh a t n' (by omega)]
       go_wp2_with fail
       go_roundw
       case rel=>exact⟨a,t,k+1,by omega,by go_num,rfl,ij (by rw [s.out];exact E.out),ij I,h.out,m.out⟩
       case measure=>simp [intOf];omega
     ·have s:Hid (a=fillR out t n):=by unfold Hid;rw [<-l.out,sh a t n' (by omega)]
      go_wp2_with fail
      go_roundw
      case rel=>exact⟨a,t,k+1,by omega,by go_num,rfl,ij (by rw [s.out];exact E.out),ij I,h.out,m.out⟩
      case measure=>simp [intOf];omega
  ·have q2:(L.length:Int)<=(k:Int):=by omega
   have d:Hid (wholeR (L.map byt) (-1) []=some (out,c)):=by
    unfold Hid;rw [<-j.out,List.drop_eq_nil_of_le (by simp;omega)];rfl
   go_wp2_with fail
   refine bodyPost_ret (v:= .tuple #[.slice x1 out.length x3,.int .i64 c,.bool true]) (by simp [results,Tryz.results73,go_sem]) rfl ?_;refine⟨x1,out.length,x3,by rw [d.out];rfl,?_,p.out,?_⟩
   ·rw [d.out];exact B.out
   ·rw [d.out];exact M
def parV(p:ParP)(v:Value):Value:= .tuple #[v,.int .i64 p.at_,.int .i64 (parE p.ok)]
theorem s9(l:List Nat)(k:Nat):searchR l (k+1)=if viable (-1) (l.take (k+1))=true then k+1 else searchR l k:=rfl
theorem uo(s:ByteArray)(w:World)(hs:s.size<=1048576):
  Calls Tryz.prog 46 #[.string s] w fun e w'=>∃ x y z,e= .returned (parV (parseR (byt s)) (.slice x y z))/\w'.ownsRow w.heap.size 3 1 (.slice x y z) (parseR (byt s)).out.length (ints (parseR (byt s)).out)/\w.grownBy w' none:=by
 have ar:∀ w4:World,w4.ownsRow w.heap.size 3 1 (.slice none 0 0) ([]:List Int).length (ints []):=fun w4=>⟨rfl,Or.inl ⟨rfl,rfl⟩⟩
 have B:=ij ar;clear ar;by_cases D:s.toList=[]
 ·have c:Hid (parseR (byt s)=⟨[],0,true⟩):=by unfold Hid;rw [(kK s).2 D];rfl
  go_enter Tryz.func46,Tryz.ntmps46
  go_wp2_with fail
  refine bodyPost_ret (v:= .tuple #[.slice none 0 0,.int .i64 0,.int .i64 0]) (by simp [results,Tryz.results46,go_sem]) rfl ?_;exact⟨none,0,0,by rw [c.out];rfl,by rw [c.out];exact B.out _,ir _ _⟩
 ·have hie:s.toList.isEmpty=false:=by simpa using D
  have C:Hid (parseR (byt s)=match wholeR (partsR (byt s)) (-1) []with
    | some (o,_)=>if 500<o.length then ⟨[],0,false⟩ else ⟨o,0,true⟩
    | none=>⟨[],searchR (byt s) (byt s).length,false⟩):=by
   unfold Hid;conv=>lhs;unfold parseR
   rw [if_neg (fun e=>D ((kK s).1 e))];cases wholeR (partsR (byt s)) (-1) []<;>rfl
  clear D;have aj:Hid (∀ (u:ByteArray),u.size<=1048576->∀ f:World,w.grownBy f none->Calls Tryz.prog 74 #[.string u] f fun e w'=>∃ (L:List ByteArray) (x:Option Addr) (z:Nat),e= .returned (.slice x L.length z)/\L.map byt=partsR (byt u)/\(∀ y∈L,y.size<=1048576)/\StrsAt w' (.slice x L.length z) L/\w.grownBy w' none/\L.length<=z/\L.length<=9223372036854775806):=by
   intro u hu f G;refine(AG u f hu).mono ?_;rintro e w3 ⟨L,x,z,rfl,q,t,A,E⟩;have hz:L.length<=z/\z<=maxLen:=by
    rcases A.2 with ⟨p,e2⟩ | ⟨_,_,_,p,_,_,e2,U,_⟩
    ·simp only [Value.slice.injEq]at p;exact⟨by omega,by unfold maxLen;omega⟩
    ·simp only [Value.slice.injEq,true_and]at p;exact⟨by omega,by omega⟩
   have hL:L.length<=u.size+1:=by
    have p:=congrArg List.length q;rw [List.length_map]at p;have:∀ l:List Nat,(partsR l).length<=l.length+1:=by
     intro l;induction l with
     | nil=>simp [partsR]
     | cons b r ih=>
      unfold partsR;split
      ·simp;omega
      ·simp;omega
    have:=this (byt u);rw [iL]at this;omega
   exact⟨L,x,z,rfl,q,fun y hy=>by have:=t y hy;omega,wC A,il G E,hz.1,by omega⟩
  go_enter Tryz.func46,Tryz.ntmps46
  go_wp2_with fail
  refine(aj.out s hs w (ir _ _)).mono ?_;rintro e w1 ⟨L,x,z,rfl,q,t,A,E,F,h6⟩;have ag:=ij E;have d:=ij (vj L (.slice x L.length z) w1 A (fun y hy=>by have:=t y hy;omega) h6);rw [q]at d;clear q t A E F h6;go_wp2_with fail
  refine d.out.mono ?_;clear d;rintro e f ⟨y1,y2,y3,rfl,Y,G,hl2⟩;have O:Hid (w.grownBy f none):=il ag.out G;have ai:Hid (f.ownsRow w.heap.size 3 1 (.slice y1 y2 y3) (outOf (wholeR (partsR (byt s)) (-1) [])).length (ints (outOf (wholeR (partsR (byt s)) (-1) [])))):=iK Y ag.out.size;have aJ:=iB Y;clear Y G;generalize wholeR (partsR (byt s)) (-1) []=W at*;cases W with
  | some oa=>
   obtain⟨o,a⟩:=oa;simp only [wholeV,outOf]at*;subst aJ;by_cases F:500<o.length
   ·have c:Hid (parseR (byt s)=⟨[],0,false⟩):=by unfold Hid;rw [C.out,if_pos F]
    have aA:500<(o.length:Int):=by omega
    go_wp2_with fail
    refine bodyPost_ret (v:= .tuple #[.slice none 0 0,.int .i64 0,.int .i64 4]) (by simp [results,Tryz.results46,go_sem]) rfl ?_;exact⟨none,0,0,by rw [c.out];rfl,by rw [c.out];exact B.out _,O.out⟩
   ·have c:Hid (parseR (byt s)=⟨o,0,true⟩):=by unfold Hid;rw [C.out,if_neg F]
    have aA:¬500<(o.length:Int):=by omega
    go_wp2_with fail
    refine bodyPost_ret (v:= .tuple #[.slice y1 o.length y3,.int .i64 0,.int .i64 0]) (by simp [results,Tryz.results46,go_sem]) rfl ?_;exact⟨y1,o.length,y3,by rw [c.out];rfl,by rw [c.out];exact ai.out,O.out⟩
  | none=>
   simp only [wholeV,outOf]at*;have c:Hid (parseR (byt s)=⟨[],searchR (byt s) s.size,false⟩):=by unfold Hid;rw [C.out,iL]
   clear C ai;go_wp2_with fail
   go_loopw [8] (fun kv w'=>∃ k:Nat,k<=s.size/\kv= .int .i64 k/\Hid (searchR (byt s) k=searchR (byt s) s.size)/\Hid (w.grownBy w' none)) (fun kv _=>(intOf kv).toNat)
   case atStart=>exact⟨s.size,Nat.le_refl _,rfl,ij rfl,O⟩
   case round=>
    obtain⟨k,hk,rfl,S,HG⟩:=hrel;obtain⟨w5,aI⟩:∃ w5,w5=wr:=⟨_,rfl⟩;subst aI;cases k with
    | zero=>
     have n:Hid (parseR (byt s)=⟨[],0,false⟩):=by unfold Hid;rw [c.out,<-S.out];rfl
     go_wp2_with fail
     refine bodyPost_ret (v:= .tuple #[.slice none 0 0,.int .i64 0,.int .i64 4]) (by simp [results,Tryz.results46,go_sem]) rfl ?_;exact⟨none,0,0,by rw [n.out];rfl,by rw [n.out];exact B.out _,HG.out⟩
    | succ k=>
     have K:=s9 (byt s) k;rw [S.out]at K;have aD:((k+1:Nat):Int)=(k:Int)+1:=by omega
     obtain⟨m,X⟩:∃ m,m=k+1:=⟨_,rfl⟩;rw [<-X]at K hk ⊢;have q0:(0:Int)<(m:Int):=by omega
     have q1:(m:Int)<=s.size:=by omega
     have ap:(s.extract 0 m).size<=1048576:=by simp;omega
     have al:byt (s.extract 0 m)=(byt s).take m:=by rw [kJ,List.drop_zero]
     have R:=ij (aj.out (s.extract 0 m) ap w5 HG.out);rw [al]at R;have T:=ij K;have h:=ij X;clear K ap al S aD X;go_wp2_with fail
     refine R.out.mono ?_;clear R;rintro e w6 ⟨M,x',z',rfl,N,Z,m3,m4,m5,m6⟩;have aB:0<M.length:=by
      have:=congrArg List.length N;rw [List.length_map]at this;have t:=List.length_pos_iff.2 (oS ((byt s).take m));omega
     obtain⟨j,H⟩:∃ j,M.length=j+1:=⟨M.length - 1,by omega⟩;have I:j<M.length:=by omega
     have aL:=m3;obtain⟨ao,cp,U,am⟩:=aL;simp only [Value.slice.injEq,true_and]at U;obtain⟨rfl,rfl⟩:=U;obtain⟨g,o,rfl,c0⟩:=am j I;have ah:=ij (m3.init j (by omega));have an:(M.take j).map byt=(partsR ((byt s).take m)).dropLast:=by
      rw [<-N,List.dropLast_eq_take,List.length_map,H,Nat.add_sub_cancel,List.map_take]
     have aq:(partsR ((byt s).take m)).getLastD []=byt M[j]:=by
      rw [<-N];rw [List.getLastD_eq_getLast?,List.getLast?_eq_getElem?,List.length_map,H,Nat.add_sub_cancel,List.getElem?_map,List.getElem?_eq_getElem I];rfl
     have d:=ij (vj (M.take j) (.slice (some ⟨g,o,none⟩) j z') w6 ah.out (fun y hy=>by have:=Z y (List.mem_of_mem_take hy);omega) (by simp;omega));rw [an]at d;have i:Hid (viable (-1) ((byt s).take m)=match wholeR (partsR ((byt s).take m)).dropLast (-1) []with
       | none=>false
       | some (_,a)=>beginsR (byt M[j]) a):=by
      unfold Hid viable;rw [aq];cases wholeR (partsR ((byt s).take m)).dropLast (-1) []<;>rfl
     have az:=ij (Z M[j] (List.getElem_mem I));have ax:=ij m4;have hjz:(j:Int)<=(z':Int):=by omega
     have hjz2:(j:Int)+1<=(z':Int):=by omega
     generalize M[j]=mj at*;rw [H];have hj0:(0:Int)<=(j:Int):=by omega
     have hj1:(j:Int)<(j:Int)+1:=by omega
     have hj9:(j:Int)<=9223372036854775805:=by omega
     clear N Z m3 m4 m5 am an aq ah aB I m6 H;go_wp2_with (go_at_call 73;refine d.out.mono ?_)
     clear d;rintro e w7 ⟨a1,a2,a3,rfl,aF,V,aE⟩;have P:Hid (w.grownBy w7 none):=il ax.out V;have d0:=ip V _ _ c0;clear aF V aE c0;cases hW:wholeR (partsR ((byt s).take m)).dropLast (-1) []with
     | none=>
      rw [hW]at i;simp only [wholeV];have Q:Hid (searchR (byt s) k=searchR (byt s) s.size):=by
       unfold Hid;rw [T.out,i.out,if_neg (by simp)]
      go_wp2_with fail
      go_roundw
      case rel=>exact⟨k,by have:=h.out;omega,by rw [h.out];go_num,Q,P⟩
      case measure=>have:=h.out;simp [intOf];omega
     | some oa=>
      obtain⟨o',a⟩:=oa;rw [hW]at i;simp only [wholeV];simp only at i;have HB:=ij (wM mj a w7 (by have:=az.out;omega));cases hbg:beginsR (byt mj) a with
      | true=>
       have n:Hid (parseR (byt s)=⟨[],m,false⟩):=by unfold Hid;rw [c.out,T.out,i.out,hbg,if_pos rfl]
       rw [hbg]at HB;go_wp2_with (go_at_call 75;refine HB.out.mono ?_;rintro e w8 ⟨J,rfl⟩)
       refine bodyPost_ret (v:= .tuple #[.slice none 0 0,.int .i64 m,.int .i64 4]) (by simp [results,Tryz.results46,go_sem]) rfl ?_;exact⟨none,0,0,by rw [n.out];rfl,by rw [n.out];exact B.out _,iR P.out J⟩
      | false=>
       have Q:Hid (searchR (byt s) k=searchR (byt s) s.size):=by
        unfold Hid;rw [T.out,i.out,hbg,if_neg (by simp)]
       rw [hbg]at HB;go_wp2_with (go_at_call 75;refine HB.out.mono ?_;rintro e w8 ⟨J,rfl⟩;have ay:Hid (w.grownBy w8 none):=iR P.out J;clear J)
       go_roundw
       case rel=>exact⟨k,by have:=h.out;omega,by rw [h.out];go_num,Q,ay⟩
       case measure=>have:=h.out;simp [intOf];omega
theorem nR(l:List Int)(v:Value)(w:World)(y:IntsAt w.heap.size w v l):
  Calls Tryz.prog 65 #[v] w fun e w'=>e= .returned (.bool (validS l))/\w.grownBy w' none:=by
 obtain⟨ao,cap,rfl,hcap,hc⟩:=y;by_cases m:l.length<=500
 ·have s:(l.length:Int)<=500:=by omega
  have b:Hid (validS l=l.all okN):=by unfold Hid validS;rw [decide_eq_true m];rfl
  have r:=ij hc;clear hc;go_enter Tryz.func65,Tryz.ntmps65
  go_wp2
  go_loopw [3] (fun i w'=>∃ k:Nat,k<=l.length/\i= .int .i64 k/\w'=w/\Hid ((l.take k).all okN=true)) (fun i _=>l.length - (intOf i).toNat)
  case atStart=>exact⟨0,Nat.zero_le _,rfl,rfl,rfl⟩
  case round=>
   obtain⟨k,hk,rfl,rfl,c⟩:=hrel;by_cases p:k<l.length
   ·obtain⟨g,o,rfl,hg,c0⟩:=r.out k p;have d:=ij (ju l okN k p);have hk0:(0:Int)<=(k:Int):=by omega
    have hk1:(k:Int)<l.length:=by omega
    have f:Hid (okN l[k]=false->validS l=false):=by
     intro h;rw [b.out];have:(l.take (k+1)).all okN=false:=by rw [d.out,h];simp
     rw [<-List.take_append_drop (k+1) l,List.all_append,this];rfl
    generalize l[k]=x at*;by_cases j:0<=x
    ·by_cases n:x<=63
     ·have q:Hid ((l.take (k+1)).all okN=true):=by unfold Hid;rw [d.out,c.out];simp [okN,j,n]
      have t:¬x<0:=by omega
      have u:¬63<x:=by omega
      go_wp2
      go_roundw
      case rel=>exact⟨k+1,by omega,by go_num,trivial,q⟩
      case measure=>simp [intOf];omega
     ·have a:=ij (f.out (by simp [okN,n]));have u:63<x:=by omega
      go_wp2
      go_ret;exact⟨by rw [a.out];rfl,ir _ _⟩
    ·have a:=ij (f.out (by simp [okN,j]));have t:x<0:=by omega
     go_wp2
     go_ret;exact⟨by rw [a.out];rfl,ir _ _⟩
   ·have a:Hid (validS l=true):=by
     unfold Hid;rw [b.out];have:=c.out;rw [List.take_of_length_le (by omega)]at this;exact this
    go_wp2
    go_ret;exact⟨by rw [a.out];rfl,ir _ _⟩
 ·have s:500<(l.length:Int):=by omega
  have b:Hid (validS l=false):=by unfold Hid validS;rw [decide_eq_false m];rfl
  clear hc;go_enter Tryz.func65,Tryz.ntmps65
  go_wp2
  go_ret;exact⟨by rw [b.out];rfl,ir _ _⟩
def oftS:List Int->Nat
 | []=>0
 | t::r=>(r.takeWhile (·==t)).length+1
theorem kU(t:Int)(r:List Int):oftS (t::r)=(r.takeWhile (·==t)).length+1:=rfl
theorem BO(t:Int)(r:List Int)(k:Nat)(a:k<(t::r).length)(i:∀ j (c:j<(t::r).length),j<k->(t::r)[j]=t)(h:(t::r)[k]≠t):oftS (t::r)=k:=by
 rw [kU];cases k with
 | zero=>exact absurd rfl h
 | succ k=>
  have d:∀ (q:List Int) (k:Nat) (a:k<q.length),(∀ j (c:j<q.length),j<k->q[j]=t)->q[k]≠t->(q.takeWhile (·==t)).length=k:=by
   intro q;induction q with
   | nil=>intro k a;simp at a
   | cons b q ih=>
    intro k a d f;cases k with
    | zero=>rw [List.takeWhile_cons,if_neg (by simpa using f)];rfl
    | succ k=>
     have e:=d 0 (by simp) (by omega);simp at e;rw [List.takeWhile_cons,if_pos (by simpa using e)];simp;exact ih k (by simpa using a) (fun j c hjk=>by have:=d (j+1) (by simpa using c) (by omega);simpa using this) (by simpa using f)
  rw [d r k (by simpa using a) (fun j c hjk=>by have:=i (j+1) (by simpa using c) (by omega);simpa using this) (by simpa using h)]
theorem AE(t:Int)(r:List Int)(d:∀ j (e:j<(t::r).length),(t::r)[j]=t):oftS (t::r)=(t::r).length:=by
 rw [kU];have:r.takeWhile (·==t)=r:=by
  have c:∀ x∈r,x=t:=by
   intro x a;obtain⟨j,e,rfl⟩:=List.getElem_of_mem a;have:=d (j+1) (by simpa using e);simpa using this
  clear d;induction r with
  | nil=>rfl
  | cons b q ih=>rw [List.takeWhile_cons,if_pos (by simpa using c b (by simp)),ih (fun x a=>c x (by simp [a]))]
 rw [this];rfl
theorem uT(t:Int)(r:List Int):grp (t::r)=(t,(oftS (t::r):Int))::grp ((t::r).drop (oftS (t::r))):=by
 induction r generalizing t with
 | nil=>simp [grp,oftS]
 | cons b q ih=>
  have e:=ih b;by_cases h:t=b
  ·subst h;have a:oftS (t::t::q)=oftS (t::q)+1:=by simp [oftS]
   rw [grp,e,a];simp
  ·have a:oftS (t::b::q)=1:=by
    rw [kU,List.takeWhile_cons,if_neg (by simpa using fun e=>h e.symm)];rfl
   rw [grp,a,e];simp [h];exact e.symm
theorem yJ(l:List Int):oftS l<=l.length:=by
 cases l with
 | nil=>simp [oftS]
 | cons t r=>
  rw [kU];have:=(List.takeWhile_sublist (·==t) (l:=r)).length_le;simpa using this
theorem uW(t:Int)(r:List Int)(v:Value)(w:World)(E:IntsAt w.heap.size w v (t::r))(hln:(t::r).length<=1000000):
  Calls Tryz.prog 68 #[v] w fun e w'=>e= .returned (.int .i64 (oftS (t::r)))/\w.grownBy w' none:=by
 obtain⟨ao,cap,rfl,hcap,hc⟩:=E;obtain⟨g,o,rfl,hg,c0⟩:=hc 0 (by simp);have D:Hid (∀ k (p:k<(t::r).length),w.cell? ⟨g,o+k,none⟩=some (.int .i64 (t::r)[k])):=by
  intro k p;obtain⟨g',o',e,_,c⟩:=hc k p;simp only [Option.some.injEq,Addr.mk.injEq,and_true]at e;obtain⟨rfl,rfl⟩:=e;exact c
 simp only [List.getElem_cons_zero,Nat.add_zero]at c0;clear hc;have hpos:0<(t::r).length:=by simp
 generalize B:t::r=l at*;have A:=ij B;clear B;have hpos':(0:Int)<l.length:=by omega
 go_enter Tryz.func68,Tryz.ntmps68
 go_wp2_with fail
 go_loopw [3] (fun i w'=>∃ k:Nat,k<=l.length/\i= .int .i64 k/\Hid (Like w' w)/\Hid (∀ j (d:j<l.length),j<k->l[j]=t)) (fun i _=>l.length - (intOf i).toNat)
 case atStart=>exact⟨0,Nat.zero_le _,rfl,ij (iT _),ij (fun j _ h=>by omega)⟩
 case round=>
  obtain⟨k,p,rfl,m,s⟩:=hrel;obtain⟨f,H⟩:∃ f,f=wr:=⟨_,rfl⟩;subst H;have n:∀ a,f.cell? a=w.cell? a:=fun a=>by simp [World.cell?,m.out.1]
  have c1:f.cell? ⟨g,o,none⟩=some (.int .i64 t):=by rw [n];exact c0
  by_cases q:k<l.length
  ·have c2:f.cell? ⟨g,o+k,none⟩=some (.int .i64 l[k]):=by rw [n];exact D.out k q
   have hk0:(0:Int)<=(k:Int):=by omega
   have F:(k:Int)<l.length:=by omega
   clear n c0;by_cases b:l[k]=t
   ·have G:(l[k]==t)=true:=by simpa using b
    have C:Hid (∀ j (d:j<l.length),j<k+1->l[j]=t):=by
     intro j d hjk;by_cases e:j=k
     ·subst e;exact b
     ·exact s.out j d (by omega)
    clear b;generalize l[k]=x at*;go_wp2_with fail
    go_quiet (fail)
    go_wp2_with fail
    go_roundw
    case rel=>exact⟨k+1,by omega,by go_num,ij (jb m.out _),C⟩
    case measure=>simp [intOf];omega
   ·have G:(l[k]==t)=false:=by simpa using b
    have u:Hid (oftS l=k):=by
     have y:=s.out;have z:=A.out;subst z;exact BO t r k q y b
    clear b;generalize l[k]=x at*;go_wp2_with fail
    go_quiet (fail)
    go_wp2_with fail
    go_ret;exact⟨by rw [u.out];rfl,iO _ (iH m.out)⟩
  ·have u:Hid (oftS l=k):=by
    have y:=s.out;have z:=A.out;subst z;rw [AE t r (fun j d=>y j d (Nat.lt_of_lt_of_le d (Nat.le_of_not_lt q)))];exact Nat.le_antisymm (Nat.le_of_not_lt q) p
   have F:decide ((k:Int)<l.length)=false:=by simp;omega
   clear n c0;go_wp2_with fail
   go_quiet (fail)
   go_wp2_with fail
   go_ret;exact⟨by rw [u.out];rfl,iO _ (iH m.out)⟩
def lenOf:Value->Nat
 | .slice _ n _=>n
 | _=>0
def dgs:ByteArray:=⟨#[48,49,50,51,52,53,54,55,56,57]⟩
theorem xN(k:Nat)(h:k<10):(dgs.extract k (k+1)).data.toList=[UInt8.ofNat (48+k)]:=by
 have:k=0\/k=1\/k=2\/k=3\/k=4\/k=5\/k=6\/k=7\/k=8\/k=9:=by omega
 rcases this with rfl | rfl | rfl | rfl | rfl | rfl | rfl | rfl | rfl | rfl<;>decide+kernel
def preD(n:Nat):List UInt8:=if n=0 then [] else Lib.decDigits n
theorem sJ(n:Nat)(h:0<n):preD n=preD (n / 10)++[UInt8.ofNat (48+n % 10)]:=by
 unfold preD;rw [if_neg (by omega)];by_cases a:n<10
 ·rw [if_pos (by omega),Lib.decDigits,dif_pos a,Nat.mod_eq_of_lt a];rfl
 ·rw [if_neg (by omega)];conv=>lhs;rw [Lib.decDigits,dif_neg a]
theorem zW(n:Nat):Lib.decDigits n=preD (n / 10)++[UInt8.ofNat (48+n % 10)]:=by
 by_cases h:n=0
 ·subst h;decide+kernel
 ·have:=sJ n (by omega);rw [<-this,preD,if_neg h]
theorem xO(n:Nat)(w:World)(x:n<1000):
  Calls Tryz.prog 78 #[.int .i64 n] w fun e w'=>e= .returned (.string ⟨(Lib.itoa n).toArray⟩)/\w'=w:=by
 have f:(n:Int).tmod 10=((n % 10:Nat):Int):=by rw [Int.tmod_eq_emod_of_nonneg (by omega)];omega
 have y:(n:Int).tdiv 10=((n / 10:Nat):Int):=by rw [Int.tdiv_eq_ediv_of_nonneg (by omega)];omega
 have b:n % 10<10:=Nat.mod_lt _ (by decide);have o:Hid ((⟨(Lib.itoa n).toArray⟩:ByteArray).data.toList=Lib.decDigits n):=by
  unfold Hid Lib.itoa;rw [if_neg (by omega)];simp
 have j:=ij (xN (n % 10) b);have k:=ij (zW n);have z:n / 10<=100:=by omega
 generalize c:n % 10=d at*;generalize h:n / 10=q at*;clear c h;have e1:(0:Int)<=(d:Int):=by omega
 have e2:(d:Int)<10:=by omega
 go_enter Tryz.func78,Tryz.ntmps78
 go_wp2_with fail
 go_loopw [0,4] (fun i sv w'=>∃ (m:Nat) (t:ByteArray),i= .int .i64 m/\sv= .string t/\Hid (w'=w)/\Hid (preD m++t.data.toList=Lib.decDigits n)/\m<=100) (fun i _ _=>(intOf i).toNat)
 case atStart=>exact⟨q,dgs.extract d (d+1),rfl,rfl,ij rfl,ij (by rw [j.out,k.out]),z⟩
 case round=>
  obtain⟨m,t,rfl,rfl,r,a,hm⟩:=hrel;obtain rfl:=r.out;by_cases s:0<m
  ·have f:(m:Int).tmod 10=((m % 10:Nat):Int):=by rw [Int.tmod_eq_emod_of_nonneg (by omega)];omega
   have y:(m:Int).tdiv 10=((m / 10:Nat):Int):=by rw [Int.tdiv_eq_ediv_of_nonneg (by omega)];omega
   have b:m % 10<10:=Nat.mod_lt _ (by decide);have p:Hid (preD (m / 10)++(dgs.extract (m % 10) (m % 10+1)++t).data.toList=Lib.decDigits n):=by
    unfold Hid;rw [<-a.out,sJ m s,ByteArray.data_append,Array.toList_append,xN (m % 10) b,List.append_assoc]
   have hts:t.size<=3:=by
    have u:=congrArg List.length a.out;have h2:=uN x;simp at u;omega
   have v:m / 10<=100:=by omega
   have hlt:m / 10<m:=by omega
   generalize c:m % 10=d' at*;generalize h:m / 10=q' at*;clear c h;have e3:(0:Int)<=(d':Int):=by omega
   have e4:(d':Int)<10:=by omega
   have e5:(0:Int)<(m:Int):=by omega
   go_wp2_with fail
   go_roundw
   case rel=>exact⟨q',dgs.extract d' (d'+1)++t,rfl,rfl,ij trivial,p,v⟩
   case measure=>simp [intOf];omega
  ·have f:m=0:=by omega
   subst f;have l:Hid ((⟨(Lib.itoa n).toArray⟩:ByteArray)=t):=by
    unfold Hid;apply ByteArray.ext;apply Array.ext';rw [o.out,<-a.out];rfl
   go_wp2_with fail
   go_ret;exact⟨by rw [l.out];rfl,rfl⟩
def digS(m:Nat):ByteArray:=⟨(Lib.itoa m).toArray⟩
theorem mE(n:Nat)(w:World)(hn:n<1000):Calls Tryz.prog 78 #[.int .i64 n] w fun e w'=>e= .returned (.string (digS n))/\w'=w:=xO n w hn
theorem pW{m:Nat}(h:m<1000):(digS m).size<=3:=by
 unfold digS;simpa [ByteArray.size]using lA (n:=(m:Int)) (by omega) (by omega)
theorem pV(m:Nat):(digS m).data.toList=Lib.itoa m:=rfl
def finR(out:List UInt8)(l:List Int):List UInt8:=if l=[] then out else if out=[] then printS l else out++[32]++printS l
theorem Bj(t n:Int):wordS t n≠[]:=by
 have h:∀ n:Int,Lib.itoa n≠[]:=by
  intro n;unfold Lib.itoa;split
  ·simp
  ·rw [Lib.decDigits];split<;>simp
 unfold wordS;split
 ·exact h t
 ·simp
theorem yx(x:List UInt8)(q:List (List UInt8)):Lib.join (x::q) [32]=if q=[] then x else x++[32]++Lib.join q [32]:=by
 cases q with
 | nil=>rw [Lib.join_one];rfl
 | cons y r=>rw [Lib.join_cons,Lib.join_cons,if_neg (by simp)];simp [Lib.joinTail]
def outNext(out:List UInt8)(wd:List UInt8):List UInt8:=if out=[] then wd else out++[32]++wd
theorem xV(out:List UInt8)(t:Int)(r:List Int):
  finR (outNext out (wordS t (oftS (t::r)))) ((t::r).drop (oftS (t::r)))=finR out (t::r):=by
 have d:=uT t r;have f:=Bj t (oftS (t::r));have e:printS (t::r)=if ((t::r).drop (oftS (t::r)))=[] then wordS t (oftS (t::r)) else wordS t (oftS (t::r))++[32]++printS ((t::r).drop (oftS (t::r))):=by
  unfold printS;rw [d,List.map_cons,yx];by_cases c:(t::r).drop (oftS (t::r))=[]
  ·rw [c];simp [grp]
  ·rw [if_neg c,if_neg (by simpa using BF c)]
 generalize (t::r).drop (oftS (t::r))=rest at*;generalize wordS t (oftS (t::r))=wd at*;unfold finR outNext;rw [if_neg (show ¬(t::r)=[] by simp),e];by_cases b:out=[]
 ·rw [if_pos b,if_pos b];by_cases a:rest=[]
  ·rw [if_pos a,if_pos a]
  ·rw [if_neg a,if_neg f,if_neg a]
 ·rw [if_neg b,if_neg b];by_cases a:rest=[]
  ·rw [if_pos a,if_pos a]
  ·rw [if_neg a,if_neg (by simp),if_neg a];simp
theorem IntsAt.tail{B:Nat}{w:World}{g o b:Nat}{l:List Int}(h:IntsAt B w (.slice (some ⟨g,o,none⟩) l.length b) l)(k:Nat)(hk:k<=l.length)(a:Option Addr)(d:k<l.length->a=some ⟨g,o+k,none⟩):IntsAt B w (.slice a (l.length - k) (b - k)) (l.drop k):=by
 obtain⟨ao,cap',e,hcap,hc⟩:=h;simp only [Value.slice.injEq,true_and]at e;obtain⟨rfl,rfl⟩:=e;refine⟨a,b - k,by simp,by simp;omega,fun j hj=>?_⟩;have i:k+j<l.length:=by simp at hj;omega
 obtain⟨g',o',e,f,c⟩:=hc (k+j) i;simp only [Option.some.injEq,Addr.mk.injEq,and_true]at e;obtain⟨rfl,rfl⟩:=e;refine⟨g,o+k,d (by omega),f,?_⟩;rw [Nat.add_assoc,c];simp
theorem xE(s:ByteArray):(⟨s.data.toList.toArray⟩:ByteArray)=s:=by cases s;rfl
theorem uq(l:List Int)(v:Value)(w:World)(z:IntsAt w.heap.size w v l):
  Calls Tryz.prog 48 #[v] w fun e w'=>w.grownBy w' none/\((validS l=true/\e= .returned (.tuple #[.string ⟨(printS l).toArray⟩,.int .i64 0]))\/(validS l=false/\e= .returned (.tuple #[.string ⟨#[]⟩,.int .i64 2]))):=by
 have G:=ij z;obtain⟨Q,R,rfl⟩:=z.form;clear z;go_enter Tryz.func48,Tryz.ntmps48
 go_wp2_with fail
 refine(nR l _ w G.out).mono ?_;rintro e j ⟨rfl,F⟩;have O:=ij F;have aa:Hid (IntsAt j.heap.size j (.slice Q l.length R) l):=(G.out.pres (ip F)).mono F.size;clear F G;cases hv:validS l with
 | false=>
  go_wp2_with fail
  refine bodyPost_ret (v:= .tuple #[.string ⟨#[]⟩,.int .i64 2]) (by simp [results,Tryz.results48,go_sem]) rfl ?_;exact⟨O.out,Or.inr ⟨hv,rfl⟩⟩
 | true=>
  have V:=hv;simp only [validS,Bool.and_eq_true,decide_eq_true_eq,List.all_eq_true]at V;obtain⟨ag,U⟩:=V;have W:=ij U;have ac:=ij hv;clear hv U;go_wp2_with fail
  go_loopw [0,5] (fun sv ov w'=>∃ (a:Option Addr) (c:Nat) (d:List Int) (out:ByteArray),sv= .slice a d.length c/\ov= .string out/\Hid (IntsAt j.heap.size j (.slice a d.length c) d)/\Hid (j.grownBy w' none)/\Hid (finR out.data.toList d=printS l)/\Hid (∀ x∈d,x∈l)/\d.length<=500/\out.size+8*d.length<=4000) (fun sv _ _=>lenOf sv)
  case atStart=>exact⟨Q,R,l,⟨#[]⟩,rfl,rfl,aa,ij (ir _ _),ij (by unfold finR;cases l with | nil=>rfl | cons a b=>rw [if_neg (by simp)];rfl),ij (fun x hx=>hx),ag,by simp [ByteArray.size];omega⟩
  case round=>
   obtain⟨a,c,d,out,rfl,rfl,H,k,N,P,hr5,hsz⟩:=hrel;obtain⟨K,aq⟩:∃ K,K=wr:=⟨_,rfl⟩;subst aq;cases d with
   | nil=>
    have Y:Hid ((⟨(printS l).toArray⟩:ByteArray)=out):=by
     unfold Hid;rw [<-N.out];exact xE out
    simp only [List.length_nil];go_wp2_with fail
    refine bodyPost_ret (v:= .tuple #[.string out,.int .i64 0]) (by simp [results,Tryz.results48,go_sem]) rfl ?_;exact⟨il O.out k.out,Or.inl ⟨ac.out,by rw [Y.out]⟩⟩
   | cons t r=>
    have an:0<(t::r).length:=by simp
    have z:=H.out;obtain⟨ao',cp',S,ah,hc⟩:=z;simp only [Value.slice.injEq,true_and]at S;obtain⟨rfl,rfl⟩:=S;obtain⟨g,o,rfl,hgb,I⟩:=hc 0 an;simp only [List.getElem_cons_zero,Nat.add_zero]at I;have c0:=ip k.out _ _ I;have ht:=W.out t (P.out t (by simp));have D:=ij (uW t r (.slice (some ⟨g,o,none⟩) (t::r).length c) K ((H.out.pres (ip k.out)).mono k.out.size) (by omega));have ak:=yJ (t::r);have hn1:1<=oftS (t::r):=by rw [kU];omega
    have Z:=ij (xV out.data.toList t r);have A:((t::r).drop (oftS (t::r))).length=(t::r).length - oftS (t::r):=by simp
    have ab:=H;clear hc I;obtain⟨t,rfl⟩:=Int.eq_ofNat_of_zero_le ht.1;have hdts:(digS t).size<=3:=pW (by omega);have m:=pV t;generalize am:oftS ((t:Int)::r)=n at*;have hdns:(digS n).size<=3:=pW (by omega);have y:=pV n;clear am;generalize T:(t:Int)::r=RL at*;have HLL:=ij T;clear T;have q0:(0:Int)<RL.length:=by omega
    have q1:(n:Int)<=RL.length:=by omega
    have q2:(0:Int)<=(n:Int):=by omega
    have q3:(n:Int)<=c:=by omega
    have q4:RL.length<=c:=ah;have X:=ij A;have C:Hid (∀ (w':World) (B:ByteArray),Hid (j.grownBy w' none)->B.data.toList=outNext out.data.toList (wordS t n)->B.size<=out.size+8->
      ∃ (a:Option Addr) (c_1:Nat) (d:List Int) (out_1:ByteArray),Value.slice (if c=n then some { block:=g,off:=o} else some { block:=g,off:=o+n}) (RL.length - n) (c - n)= .slice a d.length c_1/\Value.string B= .string out_1/\Hid (IntsAt j.heap.size j (.slice a d.length c_1) d)/\Hid (j.grownBy w' none)/\Hid (finR out_1.data.toList d=printS l)/\Hid (∀ x∈d,x∈l)/\d.length<=500/\out_1.size+8*d.length<=4000):=by
     intro w' B ai al hs';have E:=X.out;refine⟨_,c - n,RL.drop n,B,by rw [E],rfl,?_,ai,?_,?_,by rw [E];omega,by rw [E];omega⟩
     ·rw [E];exact ij (ab.out.tail n ak _ (fun h=>by rw [if_neg (by omega)]))
     ·rw [al,Z.out];exact N
     ·exact ij (fun x hx=>P.out x (List.mem_of_mem_drop hx))
    by_cases p:out.toList=[]
    ·have aj:out.toList.isEmpty=true:=by rw [p];rfl
     have i:out.data.toList=[]:=by rw [<-ByteArray.toList_eq];exact p
     have b1:¬9223372036854775807<out.size+(digS t).size:=by omega
     have b2:¬9223372036854775807<out.size+(digS t).size+1:=by omega
     have b3:¬9223372036854775807<out.size+(digS t).size+1+(digS n).size:=by omega
     by_cases u:n=1
     ·have s:Hid ((out++digS t).data.toList=outNext out.data.toList (wordS t n)):=by
       unfold Hid outNext wordS;rw [if_pos i,u];simp [i,m]
      have J:¬(1:Int)<(n:Int):=by omega
      clear p i u m y A;go_wp2_with (first | (go_at_call 68;refine D.out.mono ?_;rintro e w6 ⟨rfl,f⟩;have q:=ij (il k.out f);have c6:=ip f _ _ c0;clear f) | (go_at_call 78;refine(mE _ _ (by omega)).mono ?_;rintro e L ⟨rfl,rfl⟩))
      go_roundw
      case rel=>exact C.out _ _ q s.out (by have z1:(⟨#[42]⟩:ByteArray).size=1:=rfl;have M:(⟨#[32]⟩:ByteArray).size=1:=rfl;simp;omega)
      case measure=>simp [lenOf];omega
     ·have s:Hid ((out++digS t++⟨#[42]⟩++digS n).data.toList=outNext out.data.toList (wordS t n)):=by
       unfold Hid outNext wordS;rw [if_pos i,if_neg (by omega)];simp [i,m,y]
      have J:(1:Int)<(n:Int):=by omega
      clear p i u m y A;go_wp2_with (first | (go_at_call 68;refine D.out.mono ?_;rintro e w6 ⟨rfl,f⟩;have q:=ij (il k.out f);have c6:=ip f _ _ c0;clear f) | (go_at_call 78;refine(mE _ _ (by omega)).mono ?_;rintro e L ⟨rfl,rfl⟩))
      go_roundw
      case rel=>exact C.out _ _ q s.out (by have z1:(⟨#[42]⟩:ByteArray).size=1:=rfl;have M:(⟨#[32]⟩:ByteArray).size=1:=rfl;simp;omega)
      case measure=>simp [lenOf];omega
    ·have aj:out.toList.isEmpty=false:=by simpa using p
     have i:out.data.toList≠[]:=by rw [<-ByteArray.toList_eq];exact p
     have b0:¬9223372036854775807<out.size+1:=by omega
     have b1:¬9223372036854775807<out.size+1+(digS t).size:=by omega
     have b2:¬9223372036854775807<out.size+1+(digS t).size+1:=by omega
     have b3:¬9223372036854775807<out.size+1+(digS t).size+1+(digS n).size:=by omega
     by_cases u:n=1
     ·have s:Hid ((out++⟨#[32]⟩++digS t).data.toList=outNext out.data.toList (wordS t n)):=by
       unfold Hid outNext wordS;rw [if_neg i,u];simp [m]
      have J:¬(1:Int)<(n:Int):=by omega
      clear p i u m y A;go_wp2_with (first | (go_at_call 68;refine D.out.mono ?_;rintro e w6 ⟨rfl,f⟩;have q:=ij (il k.out f);have c6:=ip f _ _ c0;clear f) | (go_at_call 78;refine(mE _ _ (by omega)).mono ?_;rintro e L ⟨rfl,rfl⟩))
      go_roundw
      case rel=>exact C.out _ _ q s.out (by have z1:(⟨#[42]⟩:ByteArray).size=1:=rfl;have M:(⟨#[32]⟩:ByteArray).size=1:=rfl;simp;omega)
      case measure=>simp [lenOf];omega
     ·have s:Hid ((out++⟨#[32]⟩++digS t++⟨#[42]⟩++digS n).data.toList=outNext out.data.toList (wordS t n)):=by
       unfold Hid outNext wordS;rw [if_neg i,if_neg (by omega)];simp [m,y]
      have J:(1:Int)<(n:Int):=by omega
      clear p i u m y A;go_wp2_with (first | (go_at_call 68;refine D.out.mono ?_;rintro e w6 ⟨rfl,f⟩;have q:=ij (il k.out f);have c6:=ip f _ _ c0;clear f) | (go_at_call 78;refine(mE _ _ (by omega)).mono ?_;rintro e L ⟨rfl,rfl⟩))
      go_roundw
      case rel=>exact C.out _ _ q s.out (by have z1:(⟨#[42]⟩:ByteArray).size=1:=rfl;have M:(⟨#[32]⟩:ByteArray).size=1:=rfl;simp;omega)
      case measure=>simp [lenOf];omega
theorem s7{x:Int × Int}(h:0<=x.1/\x.1<=63/\1<=x.2/\x.2<=500):(runB x).length<=20:=by
 unfold runB;have h1:=i8 (n:=x.1) (by omega);have h2:=i8 (n:=x.2) (by omega);simp only [List.length_append];omega
theorem nD{s:List Int}(h:validS s=true):s.length<=500:=by
 simp only [validS,Bool.and_eq_true,decide_eq_true_eq]at h;exact h.1
theorem zg{s:List Int}(h:validS s=true):(schB s).length<=10010:=by
 unfold schB;have h0:=nD h;have h3:=lN s;have h1:=i8 (n:=(grp s).length) (by omega);have h2:=kR runB 20 (grp s) (fun x hx=>s7 (nj h x hx));have h4:20*(grp s).length<=20*500:=Nat.mul_le_mul_left _ (by omega);simp only [List.length_append];omega
theorem uy(W:World)(b:Nat)(s:List Int)(sv:Value)(w:World)(c:Value)(l:List Nat)(h:WrS W w b c l)(hl:l.length<=5000)(D:IntsAt W.heap.size W sv s)(y:validS s=true):
  Calls Tryz.prog 93 #[pt b,sv] w (Wrote W w b c (l++schB s)):=by
 have z:=ij h;have J:=ij (Cf s sv w ((D.pres (ip h.base)).mono h.base.size) (nD y));have N:=ij (nj y);have hq5:(grp s).length<=500:=by have:=lN s;have:=nD y;omega
 obtain⟨sa,sc,rfl⟩:=D.form;have V:pt b= .pointer (some ⟨b,0,none⟩):=rfl;rw [V]at*;unfold schB;generalize grp s=q at*;clear h D y V;go_enter Tryz.func93,Tryz.ntmps93
 go_wp2_with fail
 refine J.out.mono ?_;rintro e d ⟨r1,r2,r3,rfl,x,v⟩;have ar:=iB x;subst ar;have B:=ij x;have ac:=ij (z.out.grown v);have ad:=ij ((WrT.refl w b c).grown v);have HZ:Hid (w.heap.size<=d.heap.size):=v.size;have aa:Hid (∀ k,r1=some k->k.block≠b/\c.ownBlock≠some k.block):=by
  intro k S;have h1:=iA x k.block (by rw [S];rfl);have Q:=z.out.lt;refine⟨by omega,fun e=>?_⟩;have:=z.out.row.lt _ e;omega
 clear x v J;go_wp2_with fail
 refine(jY W b q.length (by omega) (by omega) d c l ac.out (by omega)).mono ?_;rintro e w2 ⟨⟨v2,rfl⟩,ak,p,r⟩;have K:=ij p;have M:=ij r;clear p r;go_wp2_with fail
 go_loopw [15] (fun i w'=>∃ (k:Nat) (bv':Value),k<=q.length/\i= .int .i64 k/\Hid (WrS W w' b bv' (l++wInt q.length++(q.take k).flatMap runB))/\Hid (WrT d w' b c bv')) (fun i _=>q.length - (intOf i).toNat)
 case atStart=>exact⟨0,ak,Nat.zero_le _,rfl,ij (by simpa using K.out),M⟩
 case round=>
  clear K M;obtain⟨k,u,S,rfl,m,j⟩:=hrel;obtain⟨a,Y⟩:∃ a,a=wr:=⟨_,rfl⟩;rw [<-Y]at m j ⊢;clear Y;by_cases G:k<q.length
  ·obtain⟨g,cap,R,hgb,ap⟩:=B.out.form (by omega);simp only [Value.slice.injEq,true_and]at R;obtain⟨rfl,rfl⟩:=R;obtain⟨P,f1⟩:=uR q k G;have F:=aa.out ⟨g,0,none⟩ rfl;have E:a.heap[g]?=d.heap[g]?:=j.out.keep g ap F.1 F.2;have aq:=vS q;have d0:a.cell? ⟨g,k*2,none⟩=some (.int .i64 q[k].1):=by
    rw [World.cell?_of_block (w:=d) E,B.out.cellAt _ (by omega)];exact P
   have d1:a.cell? ⟨g,k*2+1,none⟩=some (.int .i64 q[k].2):=by
    rw [World.cell?_of_block (w:=d) E,B.out.cellAt _ (by omega)];exact f1
   have k0:(0:Int)<=(k:Int):=by omega
   have k1:(k:Int)<q.length:=by omega
   obtain⟨a1,a2,b1,b2⟩:=N.out q[k] (List.getElem_mem G);have ae:=ij (nB runB q k G);have A:Hid ((l++wInt q.length++(q.take k).flatMap runB).length<=20000):=by
    unfold Hid;have h1:=i8 (n:=q.length) (by omega);have Q:=kR runB 20 (q.take k) (fun i h=>s7 (N.out i (List.mem_of_mem_take h)));simp only [List.length_append,List.length_take]at Q ⊢;have h3:20*min k q.length<=20*500:=Nat.mul_le_mul_left _ (by omega);omega
   generalize U:l++wInt q.length++(q.take k).flatMap runB=l2 at m A ⊢;have ab:=ij U;have af:Hid (runB q[k]=wInt q[k].1++wInt q[k].2):=rfl;clear U P f1 F E aq;generalize q[k].1=x0 at*;generalize q[k].2=x1 at*;have y0:=i8 (n:=x0) (by omega);go_wp2_with fail
   have t:=WrL.start m.out 187 #[.int .i64 x0,.int .i64 x1];have C:WrT d (a.alloc (.cells #[.int .i64 x0,.int .i64 x1] 187)) b c u:=j.out.grown (iq (ir _ _));clear d0 d1;generalize a.alloc (.cells #[.int .i64 x0,.int .i64 x1] 187)=u0 at t C ⊢;refine(jY W b x0 a1 (by omega) u0 u l2 t.wr (by have:=A.out;omega)).mono ?_;rintro e Z ⟨⟨v1,rfl⟩,al,X,H⟩;have f:=t.call X H;have o:=C.trans H;have m1:Z.cell? ⟨a.heap.size,1,none⟩=some (.int .i64 x1):=by simpa using f.cell 1
   have I:=ij f;have L:=ij o;clear f o t C X H m j;go_wp2_with fail
   have f:=I.out;have o:=L.out;clear I L m1;refine(jY W b x1 (by omega) (by omega) Z al (l2++wInt x0) f.wr (by have:=A.out;simp only [List.length_append];omega)).mono ?_;rintro e u2 ⟨⟨v2,rfl⟩,O,p,r⟩;have T4:=ij (o.trans r);have S4:Hid (WrS W u2 b O (l++wInt q.length++(q.take (k+1)).flatMap runB)):=by
    unfold Hid;rw [ae.out,af.out,<-List.append_assoc (l++wInt q.length),ab.out];simpa [List.append_assoc]using p
   clear f o p r;go_wp2_with fail
   go_roundw
   case rel=>exact⟨k+1,O,by omega,by first | rfl | go_num,S4,T4⟩
   case measure=>simp [intOf];omega
  ·have k1:¬(k:Int)<q.length:=by omega
   have T:k=q.length:=by omega
   have S5:Hid (WrS W a b u (l++(wInt q.length++q.flatMap runB))):=by
    unfold Hid;have:=m.out;rw [T,List.take_length]at this;simpa [List.append_assoc]using this
   clear T;go_wp2_with fail
   go_end0
   exact⟨⟨_,rfl⟩,u,S5.out,ad.out.trans j.out⟩
end
end Go.Proofs.YtklenjmfalljgabGreatDoor
