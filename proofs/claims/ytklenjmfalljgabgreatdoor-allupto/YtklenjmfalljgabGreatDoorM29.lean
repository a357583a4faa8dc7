/- The texts Rgk Kqd. -/
import Derived.Test.YtklenjmfalljgabGreatDoorM10
import Derived.Test.YtklenjmfalljgabGreatDoorM20
import Derived.Test.YtklenjmfalljgabGreatDoorM24
import Derived.Test.YtklenjmfalljgabGreatDoorM25
import Derived.Test.YtklenjmfalljgabGreatDoorM28
namespace Go.Proofs.YtklenjmfalljgabGreatDoor
set_option maxRecDepth 100000
set_option maxHeartbeats 8000000
section
open Go.RowKit
attribute [local go_sem] Go.World.cell?_alloc_some
def RDec(w:World)(s:ByteArray)(e:Ending)(w':World):Prop:=w.grownBy w' none/\
 ((decB (byt s)=none/\e= .returned (.tuple #[.agg #[.slice none 0 0,.slice none 0 0,.int .i64 0,.int .i64 0,.int .i64 0],.int .i64 3]))\/
 ∃ a tv sv,decB (byt s)=some a/\e= .returned (.tuple #[.agg #[tv,sv,.int .i64 a.ver.1,.int .i64 a.ver.2.1,.int .i64 a.ver.2.2],.int .i64 0])/\ProgAt w' (.agg #[tv]) a.prog/\IntsAt w'.heap.size w' sv a.sch)
theorem vy{l:List Nat}{s:ByteArray}(h:bs l=s)(hl:∀ x∈l,x<256):l=byt s:=by rw [<-h,tz hl]
theorem vx(s:ByteArray):bs (byt s)=s:=by
 apply ByteArray.ext;apply Array.ext';simp only [bs,strOfNums_data,byt,List.map_map];conv=>rhs;rw [<-List.map_id s.data.toList]
 refine List.map_congr_left fun x _=>?_
 simp
theorem zX(a:Art):∀ x∈encB a,x<256:=by
 intro x b;unfold encB bodyB at b;simp only [List.mem_append]at b;rcases b with (b | b | b | b) | b
 ·simp only [List.mem_cons,List.not_mem_nil,or_false]at b;omega
 ·unfold progB wInt at b;rcases List.mem_append.1 b with b | b
  ·exact jz _ x b
  ·obtain⟨c,_,hc⟩:=List.mem_flatMap.1 b;exact rW c x hc
 ·unfold schB wInt at b;rcases List.mem_append.1 b with b | b
  ·exact jz _ x b
  ·obtain⟨y,_,d⟩:=List.mem_flatMap.1 b;unfold runB wInt at d;rcases List.mem_append.1 d with d | d<;>exact jz _ x d
 ·unfold verB wInt at b;simp only [List.mem_append]at b;rcases b with b | b | b<;>exact jz _ x b
 ·exact BL _ _ x b
theorem sS(s:ByteArray)(w:World)(hs:s.size<=9223372036854775000):Calls Tryz.prog 42 #[.string s] w (RDec w s):=by
 have O:Hid (decB (byt s)=refDec (byt s)):=(un (fun b hb=>qJ s b hb)).symm;have P:=ij (nL (byt s));have T:=ij (fun u=>Ag s u hs);have L:Hid (refDec (byt s)=if (guessG (byt s)).2=true/\artE (guessG (byt s)).1=0/\encB (guessG (byt s)).1=byt s then some (guessG (byt s)).1 else none):=rfl;generalize hG:guessG (byt s)=G at*;clear hG;obtain⟨⟨p,d,k0,k1,k2⟩,ok⟩:=G;simp only at P T L;go_enter Tryz.func42,Tryz.ntmps42
 go_wp2_with fail
 have Z:w.grownBy (w.alloc (.cells #[.slice none 0 0,.slice none 0 0,.int .i64 0,.int .i64 0,.int .i64 0] 56)) none:=iq (ir _ _);have X:=heap_alloc_new w (.cells #[.slice none 0 0,.slice none 0 0,.int .i64 0,.int .i64 0,.int .i64 0] 56);generalize w.alloc (.cells #[.slice none 0 0,.slice none 0 0,.int .i64 0,.int .i64 0,.int .i64 0] 56)=w0 at Z X ⊢;have ag:=ij Z;have N:=ij X;clear Z X;refine(T.out w0).mono ?_;clear T;rintro e f ⟨tv,sv,rfl,aa,ae,ad⟩;have ac:=ae.progAt;have ab:=iV ad;have aw:=ij ae;have ak:=ij ad;have al:Hid (w.heap.size<w0.heap.size):=(Array.getElem?_eq_some_iff.1 N.out).1;clear ae ad;obtain⟨o,r,ar⟩:=ac.form;simp only [Value.agg.injEq,Array.mk.injEq,List.cons.injEq,and_true]at ar;subst ar;obtain⟨n,m,rfl⟩:=ab.form;have aj:=ij ac;have ai:=ij ab;have au:Hid (w.grownBy f none):=il ag.out aa;have Q:Hid (f.heap[w.heap.size]?=some (.cells #[.slice none 0 0,.slice none 0 0,.int .i64 0,.int .i64 0,.int .i64 0] 56 (0,0))):=by
  unfold Hid;rw [aa.block _ (Array.getElem?_eq_some_iff.1 N.out).1 (by simp)];exact N.out
 clear ac ab aa;go_upto_region 2 with fail
 have z:f.grownBy (f.alloc (.cells #[.slice o p.length r,.slice n d.length m,.int .i64 k0,.int .i64 k1,.int .i64 k2] 56)) none:=iq (ir _ _);have Y:=heap_alloc_new f (.cells #[.slice o p.length r,.slice n d.length m,.int .i64 k0,.int .i64 k1,.int .i64 k2] 56);generalize f.alloc (.cells #[.slice o p.length r,.slice n d.length m,.int .i64 k0,.int .i64 k1,.int .i64 k2] 56)=w2 at z Y ⊢;have ah:Hid (w.grownBy w2 none):=il au.out z;have j:Hid (w2.heap[w.heap.size]?=some (.cells #[.slice none 0 0,.slice none 0 0,.int .i64 0,.int .i64 0,.int .i64 0] 56 (0,0))):=by
  unfold Hid;rw [z.block _ (Array.getElem?_eq_some_iff.1 Q.out).1 (by simp)];exact Q.out
 have y:=ij Y;have av:=ij z;have V:=ij (aj.out.pres (ip z));have U:Hid (IntsAt w2.heap.size w2 (.slice n d.length m) d):=(ai.out.pres (ip z)).mono z.size;clear z Y N Q ag;cases ok with
 | false=>
  have K:Hid (decB (byt s)=none):=by unfold Hid;rw [O.out,L.out,if_neg (by rintro⟨h,_⟩;cases h)]
  have z0:w2.cell? ⟨w.heap.size,0,none⟩=some (.slice none 0 0):=by simp only [World.cell?,j.out];rfl
  have z1:w2.cell? ⟨w.heap.size,1,none⟩=some (.slice none 0 0):=by simp only [World.cell?,j.out];rfl
  have z2:w2.cell? ⟨w.heap.size,2,none⟩=some (.int .i64 0):=by simp only [World.cell?,j.out];rfl
  have z3:w2.cell? ⟨w.heap.size,3,none⟩=some (.int .i64 0):=by simp only [World.cell?,j.out];rfl
  have z4:w2.cell? ⟨w.heap.size,4,none⟩=some (.int .i64 0):=by simp only [World.cell?,j.out];rfl
  have y0:w2.frozen? ⟨w.heap.size,0,none⟩=false:=by simp [World.frozen?,j.out]
  have y1:w2.frozen? ⟨w.heap.size,1,none⟩=false:=by simp [World.frozen?,j.out]
  have y2:w2.frozen? ⟨w.heap.size,2,none⟩=false:=by simp [World.frozen?,j.out]
  have y3:w2.frozen? ⟨w.heap.size,3,none⟩=false:=by simp [World.frozen?,j.out]
  have y4:w2.frozen? ⟨w.heap.size,4,none⟩=false:=by simp [World.frozen?,j.out]
  go_wp2_with fail
  obtain⟨C,D,t,E,F,x⟩:=lU w2 w.heap.size _ _ _ _ _ j.out (.slice none 0 0) (.slice none 0 0) (.int .i64 0) (.int .i64 0) (.int .i64 0);generalize ((((w2.setCell ⟨w.heap.size,0,none⟩ (.slice none 0 0)).setCell ⟨w.heap.size,1,none⟩ (.slice none 0 0)).setCell ⟨w.heap.size,2,none⟩ (.int .i64 0)).setCell ⟨w.heap.size,3,none⟩ (.int .i64 0)).setCell ⟨w.heap.size,4,none⟩ (.int .i64 0)=w9 at*;have I:w.grownBy w9 none:=kT ah.out x (Nat.le_refl _);have B:Hid (RDec w s (.returned (.tuple #[.agg #[.slice none 0 0,.slice none 0 0,.int .i64 0,.int .i64 0,.int .i64 0],.int .i64 3])) w9):=⟨I,Or.inl ⟨K.out,rfl⟩⟩;refine bodyPost_ret (v:= .tuple #[.agg #[.slice none 0 0,.slice none 0 0,.int .i64 0,.int .i64 0,.int .i64 0],.int .i64 3]) ?_ rfl B.out;simp [results,Tryz.results42,go_sem,C,D,t,E,F]
 | true=>
  have d0:w2.cell? ⟨f.heap.size,0,none⟩=some (.slice o p.length r):=by simp only [World.cell?,y.out];rfl
  have d1:w2.cell? ⟨f.heap.size,1,none⟩=some (.slice n d.length m):=by simp only [World.cell?,y.out];rfl
  have d2:w2.cell? ⟨f.heap.size,2,none⟩=some (.int .i64 k0):=by simp only [World.cell?,y.out];rfl
  have d3:w2.cell? ⟨f.heap.size,3,none⟩=some (.int .i64 k1):=by simp only [World.cell?,y.out];rfl
  have d4:w2.cell? ⟨f.heap.size,4,none⟩=some (.int .i64 k2):=by simp only [World.cell?,y.out];rfl
  have af:=ij (nQ p d k0 k1 k2 _ _ w2 V.out U.out (by have:=P.out.2;omega) (fun c hc=>by have:=(P.out.1 c hc).1;omega) (fun c hc i hi=>((P.out.1 c hc).2 i hi).2.2.2));go_wp2_with fail
  refine af.out.mono ?_;clear af d0 d1 d2 d3 d4;rintro e a ⟨A,rfl⟩;have S:Hid (w.grownBy a none):=il ah.out A;have R:Hid (f.grownBy a none):=il av.out A;have l:Hid (a.heap[w.heap.size]?=some (.cells #[.slice none 0 0,.slice none 0 0,.int .i64 0,.int .i64 0,.int .i64 0] 56 (0,0))):=by
   unfold Hid;rw [A.block _ (Array.getElem?_eq_some_iff.1 j.out).1 (by simp)];exact j.out
  have J:Hid (a.heap[f.heap.size]?=some (.cells #[.slice o p.length r,.slice n d.length m,.int .i64 k0,.int .i64 k1,.int .i64 k2] 56 (0,0))):=by
   unfold Hid;rw [A.block _ (Array.getElem?_eq_some_iff.1 y.out).1 (by simp)];exact y.out
  have HP3:=ij (V.out.pres (ip A));have HI3:Hid (IntsAt a.heap.size a (.slice n d.length m) d):=(U.out.pres (ip A)).mono A.size;clear A j y V U aj ai;have z0:a.cell? ⟨w.heap.size,0,none⟩=some (.slice none 0 0):=by simp only [World.cell?,l.out];rfl
  have z1:a.cell? ⟨w.heap.size,1,none⟩=some (.slice none 0 0):=by simp only [World.cell?,l.out];rfl
  have z2:a.cell? ⟨w.heap.size,2,none⟩=some (.int .i64 0):=by simp only [World.cell?,l.out];rfl
  have z3:a.cell? ⟨w.heap.size,3,none⟩=some (.int .i64 0):=by simp only [World.cell?,l.out];rfl
  have z4:a.cell? ⟨w.heap.size,4,none⟩=some (.int .i64 0):=by simp only [World.cell?,l.out];rfl
  have y0:a.frozen? ⟨w.heap.size,0,none⟩=false:=by simp [World.frozen?,l.out]
  have y1:a.frozen? ⟨w.heap.size,1,none⟩=false:=by simp [World.frozen?,l.out]
  have y2:a.frozen? ⟨w.heap.size,2,none⟩=false:=by simp [World.frozen?,l.out]
  have y3:a.frozen? ⟨w.heap.size,3,none⟩=false:=by simp [World.frozen?,l.out]
  have y4:a.frozen? ⟨w.heap.size,4,none⟩=false:=by simp [World.frozen?,l.out]
  by_cases H:artE ⟨p,d,(k0,k1,k2)⟩=0
  ·have W:Hid (refAns ⟨p,d,(k0,k1,k2)⟩= .tuple #[.string (bs (encB ⟨p,d,(k0,k1,k2)⟩)),.int .i64 0]):=by unfold Hid refAns;rw [if_pos H]
   rw [W.out];by_cases M:bs (encB ⟨p,d,(k0,k1,k2)⟩)=s
   ·have ax:Hid (decB (byt s)=some ⟨p,d,(k0,k1,k2)⟩):=by unfold Hid;rw [O.out,L.out,if_pos ⟨by first | trivial | rfl,H,vy M (zX _)⟩]
    rw [M];clear M H;have d0:a.cell? ⟨f.heap.size,0,none⟩=some (.slice o p.length r):=by simp only [World.cell?,J.out];rfl
    have d1:a.cell? ⟨f.heap.size,1,none⟩=some (.slice n d.length m):=by simp only [World.cell?,J.out];rfl
    have d2:a.cell? ⟨f.heap.size,2,none⟩=some (.int .i64 k0):=by simp only [World.cell?,J.out];rfl
    have d3:a.cell? ⟨f.heap.size,3,none⟩=some (.int .i64 k1):=by simp only [World.cell?,J.out];rfl
    have d4:a.cell? ⟨f.heap.size,4,none⟩=some (.int .i64 k2):=by simp only [World.cell?,J.out];rfl
    go_wp2_with fail
    obtain⟨C,D,t,E,F,x⟩:=lU a w.heap.size _ _ _ _ _ l.out (.slice o p.length r) (.slice n d.length m) (.int .i64 k0) (.int .i64 k1) (.int .i64 k2);generalize ((((a.setCell ⟨w.heap.size,0,none⟩ (.slice o p.length r)).setCell ⟨w.heap.size,1,none⟩ (.slice n d.length m)).setCell ⟨w.heap.size,2,none⟩ (.int .i64 k0)).setCell ⟨w.heap.size,3,none⟩ (.int .i64 k1)).setCell ⟨w.heap.size,4,none⟩ (.int .i64 k2)=w9 at*;have I:w.grownBy w9 none:=kT S.out x (Nat.le_refl _);have B:Hid (RDec w s (.returned (.tuple #[.agg #[.slice o p.length r,.slice n d.length m,.int .i64 k0,.int .i64 k1,.int .i64 k2],.int .i64 0])) w9):=⟨I,Or.inr ⟨_,_,_,ax.out,rfl,((aw.out.step R.out (fun _ e=>by cases e)).mono R.out.size |>.step x (fun q e=>by simp only [Option.some.injEq]at e;have:=al.out;omega)).progAt,iV (jq (jq ak.out R.out (fun _ e=>by cases e)) x (fun k e t=>by simp only [Option.some.injEq]at e;have:=al.out;have:=iA ak.out k t;omega))⟩⟩;refine bodyPost_ret (v:= .tuple #[.agg #[.slice o p.length r,.slice n d.length m,.int .i64 k0,.int .i64 k1,.int .i64 k2],.int .i64 0]) ?_ rfl B.out;simp [results,Tryz.results42,go_sem,C,D,t,E,F]
   ·have K:Hid (decB (byt s)=none):=by unfold Hid;rw [O.out,L.out,if_neg (by rintro⟨_,_,h⟩;exact M (by rw [h];exact vx s))]
    clear H;generalize bs (encB ⟨p,d,(k0,k1,k2)⟩)=TT at*;have hT2:(TT.toList==s.toList)=false:=by rw [beq_eq_false_iff_ne];intro h;rw [ByteArray.toList_eq,ByteArray.toList_eq]at h;exact M (ByteArray.ext (Array.ext' h))
    go_wp2_with fail
    obtain⟨C,D,t,E,F,x⟩:=lU a w.heap.size _ _ _ _ _ l.out (.slice none 0 0) (.slice none 0 0) (.int .i64 0) (.int .i64 0) (.int .i64 0);generalize ((((a.setCell ⟨w.heap.size,0,none⟩ (.slice none 0 0)).setCell ⟨w.heap.size,1,none⟩ (.slice none 0 0)).setCell ⟨w.heap.size,2,none⟩ (.int .i64 0)).setCell ⟨w.heap.size,3,none⟩ (.int .i64 0)).setCell ⟨w.heap.size,4,none⟩ (.int .i64 0)=w9 at*;have I:w.grownBy w9 none:=kT S.out x (Nat.le_refl _);have B:Hid (RDec w s (.returned (.tuple #[.agg #[.slice none 0 0,.slice none 0 0,.int .i64 0,.int .i64 0,.int .i64 0],.int .i64 3])) w9):=⟨I,Or.inl ⟨K.out,rfl⟩⟩;refine bodyPost_ret (v:= .tuple #[.agg #[.slice none 0 0,.slice none 0 0,.int .i64 0,.int .i64 0,.int .i64 0],.int .i64 3]) ?_ rfl B.out;simp [results,Tryz.results42,go_sem,C,D,t,E,F]
  ·have W:Hid (refAns ⟨p,d,(k0,k1,k2)⟩= .tuple #[.string ⟨#[]⟩,.int .i64 (artE ⟨p,d,(k0,k1,k2)⟩)]):=by unfold Hid refAns;rw [if_neg H]
   have K:Hid (decB (byt s)=none):=by unfold Hid;rw [O.out,L.out,if_neg (by rintro⟨_,h,_⟩;exact H h)]
   rw [W.out];generalize artE ⟨p,d,(k0,k1,k2)⟩=ee at*;have h0':(ee !=0)=true:=by simpa using H
   go_wp2_with fail
   obtain⟨C,D,t,E,F,x⟩:=lU a w.heap.size _ _ _ _ _ l.out (.slice none 0 0) (.slice none 0 0) (.int .i64 0) (.int .i64 0) (.int .i64 0);generalize ((((a.setCell ⟨w.heap.size,0,none⟩ (.slice none 0 0)).setCell ⟨w.heap.size,1,none⟩ (.slice none 0 0)).setCell ⟨w.heap.size,2,none⟩ (.int .i64 0)).setCell ⟨w.heap.size,3,none⟩ (.int .i64 0)).setCell ⟨w.heap.size,4,none⟩ (.int .i64 0)=w9 at*;have I:w.grownBy w9 none:=kT S.out x (Nat.le_refl _);have B:Hid (RDec w s (.returned (.tuple #[.agg #[.slice none 0 0,.slice none 0 0,.int .i64 0,.int .i64 0,.int .i64 0],.int .i64 3])) w9):=⟨I,Or.inl ⟨K.out,rfl⟩⟩;refine bodyPost_ret (v:= .tuple #[.agg #[.slice none 0 0,.slice none 0 0,.int .i64 0,.int .i64 0,.int .i64 0],.int .i64 3]) ?_ rfl B.out;simp [results,Tryz.results42,go_sem,C,D,t,E,F]
end
section
open Go.RowKit
theorem ThrD.low{B B':Nat}{w:World}{tv:Value}{T:List (Value × Nat × List Value)}(h:ThrD B w tv T)(hb:B'<=B):ThrD B' w tv T:=
 ⟨iK h.row hb,fun x hx=>⟨iK (h.el x hx).1 hb,(h.el x hx).2⟩,h.dis⟩
theorem ThrD.grown{B:Nat}{w w':World}{tv:Value}{T:List (Value × Nat × List Value)}(h:ThrD B w tv T)(hg:w.grownBy w' none):ThrD B w' tv T:=
 ⟨iC h.row hg (fun _ e=>by cases e),fun x hx=>⟨iC (h.el x hx).1 hg (fun _ e=>by cases e),(h.el x hx).2⟩,h.dis⟩
theorem Be{L B:Nat}{w:World}{tv:Value}{p:List (List Ins)}(h:ThrAt L B w tv p)(r:∀ c∈p,c.length<=900):∃ T,T.length=p.length/\ThrD L w tv T:=by
 obtain⟨rows,d,n,o,q⟩:=h;have k:rows.length=p.length:=by have:=d.1;omega
 have b:(List.zipWith (fun(v:Value) (c:List Ins)=>(v,c.length,insCells c)) rows p).length=p.length:=by simp [k]
 have s:(List.zipWith (fun(v:Value) (c:List Ins)=>(v,c.length,insCells c)) rows p).map (·.1)=rows:=by
  apply List.ext_getElem
  ·simp [k]
  ·intro i d n;simp
 refine⟨_,b,⟨?_,fun x hx=>?_,fun i j hi a hij g e e'=>?_⟩⟩
 ·rw [b,s];exact d
 ·obtain⟨j,a,rfl⟩:=List.getElem_of_mem hx;rw [b]at a;obtain⟨rv,f,l,_⟩:=o j a;simp only [List.getElem_zipWith];have m:rows[j]'(by omega)=rv:=by
   rw [List.getElem?_eq_getElem (by omega)]at f;simpa using f
  rw [m];exact⟨l,r _ (List.getElem_mem a)⟩
 ·simp only [List.getElem_zipWith]at e e';rw [b]at hi a;exact q i j _ _ hij (List.getElem?_eq_getElem (by omega)) (List.getElem?_eq_getElem (by omega)) g e e'
def decOut(s:ByteArray):Art × Int:=match decB (byt s)with
 | none=>(⟨[],[],(0,0,0)⟩,3)
 | some a=>(a,0)
theorem lu{s:ByteArray}(h:decB (byt s)=none):decOut s=(⟨[],[],(0,0,0)⟩,3):=by unfold decOut;rw [h]
theorem lw{s:ByteArray}{a:Art}(h:decB (byt s)=some a):decOut s=(a,0):=by unfold decOut;rw [h]
theorem qL(s:ByteArray):(decOut s).1.prog.length<=4/\(∀ c∈(decOut s).1.prog,c.length<=16)/\(decOut s).1.sch.length<=500:=by
 cases h:decB (byt s)with
 | none=>rw [lu h];simp
 | some a=>
  rw [lw h];obtain⟨d,e,_⟩:=m8 (pU (fun b hb=>qJ s b hb) h).2;simp only [vProg,Bool.and_eq_true,decide_eq_true_eq,List.all_eq_true]at d;simp only [validS,Bool.and_eq_true,decide_eq_true_eq]at e;refine⟨d.2.1,fun c hc=>?_,e.1⟩;have f:=d.2.2 c hc;simp only [vCode,Bool.and_eq_true,decide_eq_true_eq]at f;exact f.1
theorem DecS.form{w w':World}{L:Nat}{s:ByteArray}{e:Ending}(h:DecS w L s e w'):w.grownBy w' none/\∃ tv sv,e= .returned (.tuple #[.agg #[tv,sv,.int .i64 (decOut s).1.ver.1,.int .i64 (decOut s).1.ver.2.1,.int .i64 (decOut s).1.ver.2.2],.int .i64 (decOut s).2])/\ThrAt L w'.heap.size w' tv (decOut s).1.prog/\w'.ownsRow L 3 1 sv (decOut s).1.sch.length (ints (decOut s).1.sch):=by
 obtain⟨b,h⟩:=h;refine⟨b,?_⟩;rcases h with ⟨h0,rfl⟩ | ⟨a,tv,sv,h0,rfl,ht,ho⟩
 ·rw [lu h0];exact⟨_,_,rfl,⟨[],⟨rfl,Or.inl ⟨rfl,rfl⟩⟩,fun h e=>(by cases e),fun j hj=>absurd hj (Nat.not_lt_zero j),Apt.nil⟩,⟨rfl,Or.inl ⟨rfl,rfl⟩⟩⟩
 ·rw [lw h0];exact⟨_,_,rfl,ht,ho⟩
theorem RDec.form{w w':World}{s:ByteArray}{e:Ending}(h:RDec w s e w'):w.grownBy w' none/\∃ tv sv,e= .returned (.tuple #[.agg #[tv,sv,.int .i64 (decOut s).1.ver.1,.int .i64 (decOut s).1.ver.2.1,.int .i64 (decOut s).1.ver.2.2],.int .i64 (decOut s).2])/\ProgAt w' (.agg #[tv]) (decOut s).1.prog/\IntsAt w'.heap.size w' sv (decOut s).1.sch:=by
 obtain⟨b,h⟩:=h;refine⟨b,?_⟩;rcases h with ⟨h0,rfl⟩ | ⟨a,tv,sv,h0,rfl,hp,hi⟩
 ·rw [lu h0];exact⟨_,_,rfl,⟨none,0,rfl,fun k hk=>absurd hk (Nat.not_lt_zero k)⟩,⟨none,0,rfl,Nat.le_refl _,fun k hk=>absurd hk (Nat.not_lt_zero k)⟩⟩
 ·rw [lw h0];exact⟨_,_,rfl,hp,hi⟩
def HzD(W:World)(B b:Nat)(n:Int)(K:Nat->List (Value × Int))(e:Ending)(w':World):Prop:=
 e= .returned (.bool true)/\∃ n' who' f' K',n<=n'/\n'<=n+6/\Hz B w' b who' n' f' K'/\W.grownBy w' none/\∀ c,c<5->(K' c).length<=(K c).length+16
end
end Go.Proofs.YtklenjmfalljgabGreatDoor
