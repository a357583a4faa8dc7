/- The texts Hnd Hnd2 Hnd3 Hnd4 Hga Hgb Hgc Hge Hgf Hgg Hgh Hgi. -/
import Derived.Test.YtklenjmfalljgabGreatDoorM06
import Derived.Laws.CopyOwn
namespace Go.Proofs.YtklenjmfalljgabGreatDoor
set_option maxRecDepth 100000
set_option maxHeartbeats 8000000
section
open Go.RowKit
attribute [local go_sem] Go.World.cell?_alloc_some
def hc(iv wv:Value)(n:Int)(ov mv:Value):Array Value:= #[iv,wv,.slice none 0 0,.slice none 0 0,.slice none 0 0,.int .i64 n,ov,mv,.slice none 0 0,.slice none 0 0,.slice none 0 0,.slice none 0 0,.slice none 0 0,.slice none 0 0,.slice none 0 0,.slice none 0 0]
def HAt(w:World)(b:Nat)(iv wv:Value)(n:Int)(ov mv:Value):Prop:=w.heap[b]?=some (.cells (hc iv wv n ov mv) 45 (0,0))
theorem HAt.cell{w:World}{b:Nat}{a c:Value}{n:Int}{ov mv:Value}(h:HAt w b a c n ov mv)(o:Nat):w.cell? ⟨b,o,none⟩=(hc a c n ov mv)[o]?:=by
 unfold HAt at h;simp [World.cell?,h]
theorem HAt.frozen{w:World}{b:Nat}{a c:Value}{n:Int}{ov mv:Value}(h:HAt w b a c n ov mv)(o:Nat):w.frozen? ⟨b,o,none⟩=false:=by
 unfold HAt at h;simp [World.frozen?,h]
theorem HAt.lt{w:World}{b:Nat}{iv wv:Value}{n:Int}{ov mv:Value}(h:HAt w b iv wv n ov mv):b<w.heap.size:=(Array.getElem?_eq_some_iff.1 h).1
theorem HAt.grown{w w':World}{b:Nat}{a c:Value}{n:Int}{ov mv:Value}{r:Option Nat}(h:HAt w b a c n ov mv)(d:w.grownBy w' r)(i:r≠some b):HAt w' b a c n ov mv:=by
 have f:=h.lt;unfold HAt at*;rw [d.block b f (fun e=>i e.symm)];exact h
theorem HAt.setOther{w:World}{b g o:Nat}{u:Value}{a c:Value}{n:Int}{ov mv:Value}(h:HAt w b a c n ov mv)(d:b≠g):HAt (w.setCell ⟨g,o,none⟩ u) b a c n ov mv:=by
 unfold HAt at*;rw [Below.heap_setCell _ _ _ _ (by simpa using d)];exact h
theorem HAt.set6{w:World}{b:Nat}{a c:Value}{n:Int}{ov mv:Value}(h:HAt w b a c n ov mv)(u:Value):HAt (w.setCell ⟨b,6,none⟩ u) b a c n u mv:=by
 unfold HAt at*;rw [heap_setCell_same w b 6 _ _ _ h];rfl
theorem HAt.set7{w:World}{b:Nat}{a c:Value}{n:Int}{ov mv:Value}(h:HAt w b a c n ov mv)(u:Value):HAt (w.setCell ⟨b,7,none⟩ u) b a c n ov u:=by
 unfold HAt at*;rw [heap_setCell_same w b 7 _ _ _ h];rfl
theorem pi(l m:List Int)(v u:Value)(w:World)(E:IntsAt w.heap.size w v l)(F:IntsAt w.heap.size w u m)(hln:l.length<=9223372036854775806):
  Calls Tryz.prog 30 #[v,u] w fun e w'=>e= .returned (.bool (l==m))/\Like w' w:=by
 obtain⟨ao,cap,rfl,hcap,hc⟩:=E;obtain⟨bo,dap,rfl,hdap,p⟩:=F;by_cases q:l.length=m.length
 ·have C:=ij hc;have D:=ij p;clear hc p;have G:(l.length:Int)=m.length:=by omega
  have H:((l.length:Int) !=(m.length:Int))=false:=by simp;omega
  have s:=ij q;go_enter Tryz.func30,Tryz.ntmps30
  clear q G;go_wp2_with fail
  go_loopw [5] (fun i w'=>∃ k:Nat,k<=l.length/\i= .int .i64 k/\Hid (Like w' w)/\Hid (l.take k=m.take k)) (fun i _=>l.length - (intOf i).toNat)
  case atStart=>exact⟨0,Nat.zero_le _,rfl,ij (iT _),by simp [Hid]⟩
  case round=>
   obtain⟨k,hk,rfl,f,r⟩:=hrel;obtain⟨d,J⟩:∃ d,d=wr:=⟨_,rfl⟩;subst J;by_cases z:k<l.length
   ·have A:k<m.length:=by have:=s.out;omega
    obtain⟨g,o,rfl,_,c0⟩:=C.out k z;obtain⟨g2,K,rfl,_,c1⟩:=D.out k A;have n:∀ a,d.cell? a=w.cell? a:=fun a=>by simp [World.cell?,f.out.1]
    have d0:d.cell? ⟨g,o+k,none⟩=some (.int .i64 l[k]):=by rw [n];exact c0
    have d1:d.cell? ⟨g2,K+k,none⟩=some (.int .i64 m[k]):=by rw [n];exact c1
    have hk0:(0:Int)<=(k:Int):=by omega
    have hk1:(k:Int)<l.length:=by omega
    have hk2:(k:Int)<m.length:=by omega
    have h:Hid (l.take (k+1)=l.take k++[l[k]]):=List.take_succ_eq_append_getElem z;have j:Hid (m.take (k+1)=m.take k++[m[k]]):=List.take_succ_eq_append_getElem A;clear n c0 c1;by_cases b:l[k]=m[k]
    ·have I:(l[k] !=m[k])=false:=by simpa using b
     have B:Hid (l.take (k+1)=m.take (k+1)):=by unfold Hid;rw [h.out,j.out,r.out,b]
     clear b h j;generalize l[k]=x at*;generalize m[k]=y at*;go_wp2_with fail
     go_quiet (fail)
     go_wp2_with fail
     go_roundw
     case rel=>exact⟨k+1,by omega,by go_num,ij (jb f.out _),B⟩
     case measure=>simp [intOf];omega
    ·have I:(l[k] !=m[k])=true:=by simpa using b
     have c:Hid ((l==m)=false):=by
      unfold Hid;simp only [beq_eq_false_iff_ne];intro e;apply b;simp [e]
     clear b h j;generalize l[k]=x at*;generalize m[k]=y at*;go_wp2_with fail
     go_quiet (fail)
     go_wp2_with fail
     go_ret;exact⟨by rw [c.out];rfl,jb f.out _⟩
   ·have c:Hid ((l==m)=true):=by
     unfold Hid;have t:=r.out;rw [List.take_of_length_le (by omega),List.take_of_length_le (by have:=s.out;omega)]at t;simpa using t
    have q2:(l.length:Int)<=(k:Int):=by omega
    go_wp2_with fail
    go_ret;exact⟨by rw [c.out];rfl,f.out⟩
 ·have c:Hid ((l==m)=false):=by
   unfold Hid;simp only [beq_eq_false_iff_ne];intro e;exact q (by rw [e])
  have H:((l.length:Int) !=(m.length:Int))=true:=by simp;omega
  clear hc p;go_enter Tryz.func30,Tryz.ntmps30
  go_wp2_with fail
  go_ret;exact⟨by rw [c.out];rfl,iT _⟩
theorem pI{P:Program}(w:World)(t ty h:TypeId)(x:P.underlying t=some (.slice h))(u:(P.info? h).map (·.size)=some 1)(g b n:Nat)(sv:Value)(B:Nat)(l:List Int)(A:IntsAt B w sv l)(cur:Array Value)(f:TypeId)(o:w.heap[g]?=some (.cells cur f (0,0)))(F:l.length<=b)(hfit:l.length<=cur.size):
  ∃ w',(Builtin.copy_ #[t,t] ty #[.slice (some ⟨g,0,none⟩) b n,sv]).run P w= .ok (goInt l.length) w'/\w'.heap[g]?=some (.cells (ints l++cur.toList.drop l.length).toArray f (0,0))/\w.grownBy w' (some g):=by
 obtain⟨ao,q,e,hcap,hc⟩:=A;subst e;by_cases z:l.length=0
 ·have E:l=[]:=List.length_eq_zero_iff.1 z;subst E;refine⟨w,run_copy_none (P:=P) w t t ty h _ _ b n _ q x u (by simp),?_,ir _ _⟩;rw [o];simp [ints]
 ·obtain⟨i,m,y,_,_⟩:=hc 0 (by omega);subst y;have D:∀ k (p:k<l.length),w.cell? ⟨i,m+k,none⟩=some (.int .i64 l[k]):=by
   intro k p;obtain⟨g2,o2,r,_,c⟩:=hc k p;simp only [Option.some.injEq,Addr.mk.injEq,and_true]at r;obtain⟨rfl,rfl⟩:=r;exact c
  have G:Nat.min l.length b=l.length:=Nat.min_eq_left F;have d:=run_copy_row (P:=P) w t t ty h g 0 b n ⟨i,m,none⟩ l.length q cur f (ints l) x u o (by rw [jc,G]) (fun j v hj=>by
   have s:j<l.length:=by have:=(List.getElem?_eq_some_iff.1 hj).1;rwa [jc]at this
   have C:(⟨i,m,none⟩:Addr).add j=⟨i,m+j,none⟩:=by unfold Addr.add;split<;>simp_all
   rw [C,D j s,<-hj];simp [ints,s]) (by rw [jc];omega) (lz l)
  rw [jc]at d;simp only [List.take_zero,List.nil_append,Nat.zero_add]at d;exact⟨_,d,setRow_heap w g cur _ f (0,0) o,⟨rfl,rfl,rfl,by simp,fun k p d=>setRow_other w g k _ (fun e=>d (by rw [e]))⟩⟩
def ink:Value:= .int .i64 (-77000000)
def lentRow(l:List Int):Array Value:=(ints l++[ink,ink]).toArray
theorem p9:((Tryz.prog.info? 39).map fun i=>(i.zero,i.size,i.bytes))=some (some (.slice none 0 0),1,24):=by kernel_rfl
theorem AR(l:List Int)(cur:Array Value)(hc:cur.size=l.length+2):((ints l++cur.toList.drop l.length).toArray.setIfInBounds l.length ink).setIfInBounds (l.length+1) ink=lentRow l:=by
 obtain⟨c⟩:=cur;simp at hc;obtain⟨x,y,h⟩:∃ x y,c.drop l.length=[x,y]:=⟨c[l.length]'(by omega),c[l.length+1]'(by omega),by
  rw [List.drop_eq_getElem_cons (by omega),List.drop_eq_getElem_cons (by omega),List.drop_eq_nil_of_le (by omega)]⟩
 have e:∀ (a:List Value) (x y z:Value) (k:Nat),k=a.length->(a++[x,y]).set k z=a++[z,y]:=by
  intro a x y z k b;subst b;rw [List.set_append];simp
 have f:∀ (a:List Value) (x y z:Value) (k:Nat),k=a.length->(a++[x,y]).set (k+1) z=a++[x,z]:=by
  intro a x y z k b;subst b;rw [List.set_append,if_neg (by omega)];simp
 have d:=(jc l).symm;simp only [h,List.setIfInBounds_toArray,lentRow];rw [e _ _ _ _ _ d,f _ _ _ _ _ d]
theorem sB(l:List Int):(lentRow l).size=l.length+2:=by simp [lentRow,jc]
theorem ue(l:List Int)(k:Nat)(a:k<l.length):(lentRow l)[k]?=some (.int .i64 l[k]):=by
 simp [lentRow,ints,List.getElem?_append,a]
theorem qX(l:List Int):(lentRow l)[l.length]?=some ink:=by
 simp [lentRow,jc]
theorem qY(l:List Int):(lentRow l)[l.length+1]?=some ink:=by
 simp [lentRow,jc]
theorem jQ{w:World}{g:Nat}{l:List Int}(h:w.heap[g]?=some (.cells (lentRow l) 3 (0,0))):IntsAt w.heap.size w (.slice (some ⟨g,0,none⟩) l.length (l.length+2)) l:=by
 refine⟨some ⟨g,0,none⟩,l.length+2,rfl,by omega,fun k hk=>⟨g,0,rfl,(Array.getElem?_eq_some_iff.1 h).1,?_⟩⟩;rw [Nat.zero_add];simp only [World.cell?,h];exact ue l k hk
def Turned(w:World)(b g:Nat)(w':World):Prop:=w'.os=w.os/\w'.tape=w.tape/\w'.output=w.output/\w.heap.size<=w'.heap.size/\∀ k,k<w.heap.size->k≠b->k≠g->w'.heap[k]?=w.heap[k]?
theorem Turned.refl(w:World)(b g:Nat):Turned w b g w:=⟨rfl,rfl,rfl,Nat.le_refl _,fun _ _ _ _=>rfl⟩
theorem Turned.below{w w1 w2:World}{b g:Nat}(h:Turned w b g w1)(hb:Below w1.heap.size w1 w2):Turned w b g w2:=
 ⟨hb.os.trans h.1,hb.tape.trans h.2.1,hb.output.trans h.2.2.1,Nat.le_trans h.2.2.2.1 hb.size,fun k hk h1 h2=>by rw [hb.block k (Nat.lt_of_lt_of_le hk h.2.2.2.1)];exact h.2.2.2.2 k hk h1 h2⟩
theorem Turned.set{w w1:World}{b g c o:Nat}{v:Value}(h:Turned w b g w1)(hc:c=b\/c=g):Turned w b g (w1.setCell ⟨c,o,none⟩ v):=
 ⟨h.1,h.2.1,h.2.2.1,by simpa using h.2.2.2.1,fun k hk h1 h2=>by rw [Below.heap_setCell _ _ _ _ (by rcases hc with rfl | rfl<;>simpa using by assumption)];exact h.2.2.2.2 k hk h1 h2⟩
theorem Turned.like{w w1 w2:World}{b g:Nat}(h:Turned w b g w1)(hl:Like w2 w1):Turned w b g w2:=
 ⟨hl.2.1.trans h.1,hl.2.2.2.trans h.2.1,hl.2.2.1.trans h.2.2.1,by rw [hl.1];exact h.2.2.2.1,fun k hk h1 h2=>by rw [hl.1];exact h.2.2.2.2 k hk h1 h2⟩
section
variable {P : Program} {w : World}
theorem iE{N:Array Oper}{O:List Oper}{o:Oper}{a:Act}{Q:Exit->Act->World->Prop}(W:o.guard=none)(s x:Operand)(t:TypeId)
  (Y:o.op= .call { callee:= .builtin .append,args:= #[s,x],argTypes:= #[t,t]})
  (base:Nat) (e:TypeId) (i:TypeInfo) (z:Value) (b r:Nat) (E:P.underlying t=some (.slice e)) (y:P.info? e=some i) (M:i.zero=some z)
  (D:i.size=b) (J:i.bytes=r) (af:z.cells.size=b) (ac:0<b)
  (v:Value) (n:Nat) (xs:List Value) (hs:a.eval s=v) (q:w.ownsRow base e b v n xs)
  (l:Addr) (m c:Nat) (f:List Value) (hx:a.eval x= .slice (some l) m c) (A:f.length=m*b) (B:∀ j u,f[j]?=some u->w.cell? (l.add j)=some u) (F:∀ u∈f,u.oneCell'=true)
  (X:0<m) (G:n+m<=maxLen) (L:(n+m)*r<=140737488355328) (V:base<=w.heap.size) (H:Nat) (I:w.heap.size=H)
  (h:∀ g cap w',w'.ownsRow base e b (.slice (some ⟨g,0,none⟩) (n+m) cap) (n+m) (xs++f)->((v.ownBlock=some g/\w.grownBy w' (some g))\/(g=H/\w.grownBy w' none))->g<w'.heap.size->wpList P N Q O (a.put o.dst (.slice (some ⟨g,0,none⟩) (n+m) cap)) w'):wpList P N Q (o::O) a w:=by
 refine wpList_plain W fun K hK=>?_
 obtain⟨g,cap,w',C,R,S,p,T⟩:=run_append_lies (P:=P) w t o.type base e i z b r E y M D J af ac v n xs q l m c f A B F X G L V H I;have key:(v.ownBlock=some g/\w.grownBy w' (some g))\/(g=H/\w.grownBy w' none):=by
  have hsmall:n+m<=9223372036854775807:=by simp only [maxLen]at G;omega
  rcases q.2 with ⟨rfl,rfl⟩ | ⟨g0,cap0,cur,rfl,hbg,hg,hnc,hcm,hcs,htake⟩
  ·rcases p with p | p
   ·cases p
   ·exact Or.inr ⟨p,S⟩
  ·by_cases aa:n+m<=cap0
   ·obtain⟨w2,d,h6,U⟩:=run_append_fits (P:=P) w base t o.type e i b E y D g0 n cap0 xs q l m c f A B F aa;rw [C]at d;simp only [Result.ok.injEq,Value.slice.injEq,Option.some.injEq,Addr.mk.injEq,true_and,and_true]at d;obtain⟨⟨rfl,rfl⟩,rfl⟩:=d;exact Or.inl ⟨rfl,U⟩
   ·subst D;subst J;have Z:∀ j u,xs[j]?=some u->w.cell? ((⟨g0,0,none⟩:Addr).add j)=some u:=q.cells (g:=g0) rfl;have d:=run_append_grow (P:=P) w t o.type e i z E y M ⟨g0,0,none⟩ n cap0 xs q.1 Z l m c f A B (by omega) (by omega) (growslice_fits (by omega) L);rw [C]at d;simp only [Result.ok.injEq,Value.slice.injEq,Option.some.injEq,Addr.mk.injEq,true_and,and_true]at d;obtain⟨⟨rfl,rfl⟩,rfl⟩:=d;exact Or.inr ⟨I,⟨rfl,rfl,rfl,by simp,fun k hk _=>Below.heap_alloc w.drew _ k hk⟩⟩
 unfold Oper.wp execOp;simp only [Y,resolve,invoke,builtin,Sem.run_bind,Sem.run_pure,Result.andThen_ok,List.map_toArray,List.map_cons,List.map_nil,hs,hx,C];exact hK _ _ (h g cap w' R key T)
end
def Kept(w:World)(x:Value × Int):Prop:=x.1= .slice none 0 0\/∃ g len cap,x.1= .slice (some ⟨g,0,none⟩) len cap/\len<=1000/\∀ k,k<len->w.cell? ⟨g,k,none⟩=some (.int .i64 x.2)
structure KeptAll(B:Nat)(w:World)(b:Nat)(ov mv:Value)(K:List (Value × Int)):Prop where
 orow:w.ownsRow B 39 1 ov K.length (K.map (·.1))
 mrow:w.ownsRow B 3 1 mv K.length (ints (K.map (·.2)))
 ob:ov.ownBlock≠some b
 mb:mv.ownBlock≠some b
 om:∀ g,ov.ownBlock=some g->mv.ownBlock≠some g
 kept:∀ x∈K,Kept w x/\∀ g,x.1.ownBlock=some g->g≠b/\ov.ownBlock≠some g/\mv.ownBlock≠some g/\g<w.heap.size
 lo:B<=b
def Hd(B:Nat)(w:World)(b:Nat)(n:Int)(K:List (Value × Int)):Prop:=∃ ov mv,HAt w b (.slice none 0 0) (.slice none 0 0) n ov mv/\KeptAll B w b ov mv K
theorem Kept.grown{w w':World}{x:Value × Int}{r:Option Nat}(h:Kept w x)(c:w.grownBy w' r)(d:∀ g,x.1.ownBlock=some g->r≠some g/\g<w.heap.size):Kept w' x:=by
 rcases h with h | ⟨g,len,cap,e,hl,hc⟩
 ·exact Or.inl h
 ·obtain⟨a,b⟩:=d g (by rw [e];rfl);refine Or.inr ⟨g,len,cap,e,hl,fun k hk=>?_⟩;rw [World.cell?_of_block (c.block g b (fun e=>a e.symm))];exact hc k hk
theorem iP{w:World}{base:Nat}{e:TypeId}{b:Nat}{v:Value}{n:Nat}{xs:List Value}(h:w.ownsRow base e b v n xs):∀ g,v.ownBlock=some g->g<w.heap.size:=by
 intro g a;rcases h.2 with ⟨e1,_⟩ | ⟨g',cap,cur,hv,hb,hh,_⟩
 ·rw [e1]at a;cases a
 ·rw [hv]at a;simp [Value.ownBlock]at a;rw [<-a];exact(Array.getElem?_eq_some_iff.1 hh).1
theorem oR{w w':World}{base:Nat}{e:TypeId}{b:Nat}{v:Value}{n:Nat}{xs:List Value}{r:Option Nat}(h:w.ownsRow base e b v n xs)(d:w.grownBy w' r)(f:∀ g,v.ownBlock=some g->r≠some g):w'.ownsRow base e b v n xs:=by
 obtain⟨c,a⟩:=h;refine⟨c,?_⟩;rcases a with a | ⟨g,cap,cur,hv,hb,hh,rest⟩
 ·exact Or.inl a
 ·refine Or.inr ⟨g,cap,cur,hv,hb,?_,rest⟩;rw [d.block g (Array.getElem?_eq_some_iff.1 hh).1 (fun e=>f g (by rw [hv];rfl) e.symm)];exact hh
theorem KeptAll.grown{B:Nat}{w w':World}{b:Nat}{ov mv:Value}{K:List (Value × Int)}{r:Option Nat}(h:KeptAll B w b ov mv K)(a:w.grownBy w' r)(c:∀ g,r=some g->ov.ownBlock≠some g/\mv.ownBlock≠some g/\∀ x∈K,x.1.ownBlock≠some g):KeptAll B w' b ov mv K:=by
 refine⟨oR h.orow a (fun g e1 e2=>(c g e2).1 e1),oR h.mrow a (fun g e1 e2=>(c g e2).2.1 e1),h.ob,h.mb,h.om,fun x hx=>?_,h.lo⟩;obtain⟨k1,k2⟩:=h.kept x hx;refine⟨k1.grown a (fun g e=>⟨fun e2=>(c g e2).2.2 x hx e,(k2 g e).2.2.2⟩),fun g e=>?_⟩;obtain⟨d,f,i,j⟩:=k2 g e;exact⟨d,f,i,Nat.lt_of_lt_of_le j a.size⟩
theorem Hd.grown{B:Nat}{w w':World}{b:Nat}{n:Int}{K:List (Value × Int)}(h:Hd B w b n K)(a:w.grownBy w' none):Hd B w' b n K:=by
 obtain⟨ov,mv,c,d⟩:=h;exact⟨ov,mv,c.grown a (by simp),d.grown a (fun g e=>by cases e)⟩
structure KS(W:World)(B:Nat)(w:World)(b:Nat)(n m:Int)(ov mv lv:Value)(len:Nat)(K:List (Value × Int))(M:List Int):Prop where
 h:HAt w b (.slice none 0 0) (.slice none 0 0) n ov mv
 orow:w.ownsRow B 39 1 ov K.length (K.map (·.1))
 mrow:w.ownsRow B 3 1 mv M.length (ints M)
 lrow:w.ownsRow B 3 1 lv len (List.replicate len (.int .i64 m))
 ob:ov.ownBlock≠some b
 mb:mv.ownBlock≠some b
 lb:lv.ownBlock≠some b
 om:∀ g,ov.ownBlock=some g->mv.ownBlock≠some g
 ol:∀ g,ov.ownBlock=some g->lv.ownBlock≠some g
 ml:∀ g,mv.ownBlock=some g->lv.ownBlock≠some g
 kept:∀ x∈K,Kept w x/\∀ g,x.1.ownBlock=some g->g≠b/\ov.ownBlock≠some g/\mv.ownBlock≠some g/\g<w.heap.size/\(lv.ownBlock=some g->x.2=m/\∃ l c,x.1= .slice (some ⟨g,0,none⟩) l c/\l<=len)
 lo:B<=b
 ln:len<=1000
 base:W.grownBy w none
 wb:W.heap.size<=B
theorem nn{w w6:World}{o:Obj}{v:Value}{g6:Nat}(key:(v.ownBlock=some g6/\(w.alloc o).grownBy w6 (some g6))\/(g6=w.heap.size+1/\(w.alloc o).grownBy w6 none)):
  ∃ r,w.grownBy w6 r/\(∀ g,r=some g->v.ownBlock=some g)/\(∀ g,g<w.heap.size->v.ownBlock≠some g->g6≠g)/\(∀ g,g<w.heap.size->v.ownBlock≠some g->w6.heap[g]?=w.heap[g]?)/\w.heap.size<=w6.heap.size:=by
 rcases key with ⟨e,hg⟩ | ⟨e,hg⟩
 ·have b:w.grownBy w6 (some g6):=il (iq (ir _ _)) hg;exact⟨some g6,b,fun g e2=>(by rw [e,e2]),fun g _ h2 e3=>h2 (by rw [e,e3]),fun g h1 h2=>b.block g h1 (fun e3=>h2 (by rw [e,e3])),b.size⟩
 ·have b:w.grownBy w6 none:=il (iq (ir _ _)) hg;exact⟨none,b,fun g e2=>(by cases e2),fun g h1 _ e3=>(by omega),fun g h1 _=>b.block g h1 (by simp),b.size⟩
theorem Kept.same{w w':World}{x:Value × Int}(h:Kept w x)(a:∀ g,x.1.ownBlock=some g->w'.heap[g]?=w.heap[g]?):Kept w' x:=by
 rcases h with h | ⟨g,len,cap,e,hl,hc⟩
 ·exact Or.inl h
 ·refine Or.inr ⟨g,len,cap,e,hl,fun k hk=>?_⟩;rw [World.cell?_of_block (a g (by rw [e];rfl))];exact hc k hk
theorem iI{w w':World}{base:Nat}{e:TypeId}{b:Nat}{v:Value}{n:Nat}{xs:List Value}(h:w.ownsRow base e b v n xs)(d:∀ g,v.ownBlock=some g->w'.heap[g]?=w.heap[g]?):w'.ownsRow base e b v n xs:=by
 obtain⟨c,a⟩:=h;refine⟨c,?_⟩;rcases a with a | ⟨g,cap,cur,hv,hbb,hh,rest⟩
 ·exact Or.inl a
 ·exact Or.inr ⟨g,cap,cur,hv,hbb,by rw [d g (by rw [hv];rfl)];exact hh,rest⟩
theorem oh{W w w6:World}{r:Option Nat}{v:Value}{B:Nat}(h:W.grownBy w none)(hB:W.heap.size<=B)(hg:w.grownBy w6 r)(hr:∀ g,r=some g->v.ownBlock=some g)(hv:∀ g,v.ownBlock=some g->B<=g):W.grownBy w6 none:=
 ⟨hg.os.trans h.os,hg.tape.trans h.tape,hg.output.trans h.output,Nat.le_trans h.size hg.size,fun k hk _=>by
  rw [hg.block k (Nat.lt_of_lt_of_le hk h.size) (fun e=>by have:=hv k (hr k e.symm);omega)];exact h.block k hk (by simp)⟩
section
variable {W : World} {B : Nat} {w : World} {b : Nat} {n m : Int} {ov mv lv : Value} {len : Nat} {K : List (Value × Int)} {M : List Int}
theorem KS.out(s:KS W B w b n m ov mv lv len K M){w6:World}{o:Obj}{g6 c6:Nat}(E:w6.ownsRow B 39 1 (.slice (some ⟨g6,0,none⟩) (K.length+1) c6) (K.length+1) (K.map (·.1)++[lv]))
  (key:(ov.ownBlock=some g6/\(w.alloc o).grownBy w6 (some g6))\/(g6=w.heap.size+1/\(w.alloc o).grownBy w6 none)):
  KS W B (w6.setCell ⟨b,6,none⟩ (.slice (some ⟨g6,0,none⟩) (K.length+1) c6)) b n m (.slice (some ⟨g6,0,none⟩) (K.length+1) c6) mv lv len (K++[(lv,m)]) M:=by
 obtain⟨r,D,F,i,A,hsz⟩:=nn key;have u:=s.h.lt;have v:g6≠b:=i b u s.ob;have q:∀ g,g<w.heap.size->ov.ownBlock≠some g->g≠b->(w6.setCell ⟨b,6,none⟩ (.slice (some ⟨g6,0,none⟩) (K.length+1) c6)).heap[g]?=w.heap[g]?:=fun g d f j=>by
  rw [Below.heap_setCell _ _ _ _ (by simpa using j)];exact A g d f
 have z:=iP s.mrow;have p:=iP s.lrow;refine⟨?_,?_,iI s.mrow (fun g e=>q g (z g e) (fun a=>s.om g a e) (fun a=>s.mb (by rw [e,a]))),iI s.lrow (fun g e=>q g (p g e) (fun a=>s.ol g a e) (fun a=>s.lb (by rw [e,a]))),
  by simpa [Value.ownBlock]using v,s.mb,s.lb,?_,?_,s.ml,?_,s.lo,s.ln,?_,s.wb⟩
 ·refine HAt.set6 (ov:=ov) ?_ _;have:=s.h;unfold HAt at*;rw [A b u s.ob];exact this
 ·refine ownsRow_setCell_other ?_ (by simpa [Value.ownBlock]using v) _;simpa using E
 ·intro g e a;simp only [Value.ownBlock,Option.some.injEq]at e;exact i g (z g a) (fun e3=>s.om g e3 a) e
 ·intro g e a;simp only [Value.ownBlock,Option.some.injEq]at e;exact i g (p g a) (fun e3=>s.ol g e3 a) e
 ·intro x c;rcases List.mem_append.1 c with c | c
  ·obtain⟨k1,k2⟩:=s.kept x c;refine⟨k1.same (fun g e=>by obtain⟨d,f,j,t,_⟩:=k2 g e;exact q g t f d),fun g e=>?_⟩;obtain⟨d,f,j,t,C⟩:=k2 g e;exact⟨d,by simpa [Value.ownBlock]using i g t f,j,by simp;omega,C⟩
  ·simp at c;subst c;refine⟨?_,fun g e=>⟨fun a=>s.lb (by rw [<-a];exact e),by simpa [Value.ownBlock]using i g (p g e) (fun e3=>s.ol g e3 e),fun e3=>s.ml g e3 e,by have:=p g e;simp;omega,fun _=>⟨rfl,?_⟩⟩⟩
   ·rcases s.lrow.2 with ⟨e,_⟩ | ⟨g,cap,cur,hv,hbb,hh,hc1,hc2,hc3,hc4⟩
    ·exact Or.inl e
    ·refine Or.inr ⟨g,len,cap,hv,s.ln,fun k hk=>?_⟩;have y:=s.lrow;rw [hv]at y;rw [World.cell?_of_block (q g (Array.getElem?_eq_some_iff.1 hh).1 (fun e3=>s.ol g e3 (by rw [hv];rfl)) (fun e3=>s.lb (by rw [hv,<-e3];rfl))),y.cellAt k (by omega)];simp [hk]
   ·rcases s.lrow.2 with ⟨a,_⟩ | ⟨g',cap,cur,hv,_⟩
    ·rw [a]at e;cases e
    ·rw [hv]at e;simp only [Value.ownBlock,Option.some.injEq]at e;exact⟨len,cap,by rw [hv,e],Nat.le_refl _⟩
 ·exact iD (oh s.base s.wb D F (iA s.orow)) (by have:=s.lo;have:=s.wb;omega)
theorem KS.mark(s:KS W B w b n m ov mv lv len K M){w6:World}{o:Obj}{g6 c6:Nat}(z:w6.ownsRow B 3 1 (.slice (some ⟨g6,0,none⟩) (M.length+1) c6) (M.length+1) (ints M++[.int .i64 m]))
  (key:(mv.ownBlock=some g6/\(w.alloc o).grownBy w6 (some g6))\/(g6=w.heap.size+1/\(w.alloc o).grownBy w6 none)):
  KS W B (w6.setCell ⟨b,7,none⟩ (.slice (some ⟨g6,0,none⟩) (M.length+1) c6)) b n m ov (.slice (some ⟨g6,0,none⟩) (M.length+1) c6) lv len K (M++[m]):=by
 obtain⟨r,y,A,i,u,hsz⟩:=nn key;have l:=s.h.lt;have p:g6≠b:=i b l s.mb;have k:∀ g,g<w.heap.size->mv.ownBlock≠some g->g≠b->(w6.setCell ⟨b,7,none⟩ (.slice (some ⟨g6,0,none⟩) (M.length+1) c6)).heap[g]?=w.heap[g]?:=fun g c f d=>by
  rw [Below.heap_setCell _ _ _ _ (by simpa using d)];exact u g c f
 have t:=iP s.orow;have q:=iP s.lrow;refine⟨?_,iI s.orow (fun g e=>k g (t g e) (fun a=>s.om g e a) (fun a=>s.ob (by rw [e,a]))),?_,iI s.lrow (fun g e=>k g (q g e) (fun a=>s.ml g a e) (fun a=>s.lb (by rw [e,a]))),
  s.ob,by simpa [Value.ownBlock]using p,s.lb,?_,s.ol,?_,?_,s.lo,s.ln,?_,s.wb⟩
 ·refine HAt.set7 (mv:=mv) ?_ _;have:=s.h;unfold HAt at*;rw [u b l s.mb];exact this
 ·refine ownsRow_setCell_other ?_ (by simpa [Value.ownBlock]using p) _;simpa [ints]using z
 ·intro g e a;simp only [Value.ownBlock,Option.some.injEq]at a;exact i g (t g e) (fun e3=>s.om g e e3) a
 ·intro g e a;simp only [Value.ownBlock,Option.some.injEq]at e;exact i g (q g a) (fun e3=>s.ml g e3 a) e
 ·intro x C;obtain⟨k1,k2⟩:=s.kept x C;refine⟨k1.same (fun g e=>by obtain⟨c,f,d,j,_⟩:=k2 g e;exact k g j d c),fun g e=>?_⟩;obtain⟨c,f,d,j,v⟩:=k2 g e;exact⟨c,f,by simpa [Value.ownBlock]using i g j d,by simp;omega,v⟩
 ·exact iD (oh s.base s.wb y A (iA s.mrow)) (by have:=s.lo;have:=s.wb;omega)
theorem KS.list(s:KS W B w b n m ov mv lv len K M)(I:len+1<=1000){w6:World}{o:Obj}{g6 c6:Nat}(L:w6.ownsRow B 3 1 (.slice (some ⟨g6,0,none⟩) (len+1) c6) (len+1) (List.replicate len (.int .i64 m)++[.int .i64 m]))
  (key:(lv.ownBlock=some g6/\(w.alloc o).grownBy w6 (some g6))\/(g6=w.heap.size+1/\(w.alloc o).grownBy w6 none)):
  KS W B w6 b n m ov mv (.slice (some ⟨g6,0,none⟩) (len+1) c6) (len+1) K M:=by
 obtain⟨r,G,N,j,p,hsz⟩:=nn key;have A:=s.h.lt;have H:g6≠b:=j b A s.lb;have D:=iP s.orow;have C:=iP s.mrow;have E:w6.ownsRow B 3 1 (.slice (some ⟨g6,0,none⟩) (len+1) c6) (len+1) (List.replicate (len+1) (.int .i64 m)):=by rw [List.replicate_succ'];exact L
 refine⟨?_,iI s.orow (fun g e=>p g (D g e) (s.ol g e)),iI s.mrow (fun g e=>p g (C g e) (s.ml g e)),E,s.ob,s.mb,by simpa [Value.ownBlock]using H,s.om,?_,?_,?_,s.lo,I,?_,s.wb⟩
 ·have:=s.h;unfold HAt at*;rw [p b A s.lb];exact this
 ·intro g e a;simp only [Value.ownBlock,Option.some.injEq]at a;exact j g (D g e) (s.ol g e) a
 ·intro g e a;simp only [Value.ownBlock,Option.some.injEq]at a;exact j g (C g e) (s.ml g e) a
 ·intro x P;obtain⟨k1,k2⟩:=s.kept x P;refine⟨?_,fun g e=>?_⟩
  ·rcases k1 with k1 | ⟨g,l,c,e,hl1,hc⟩
   ·exact Or.inl k1
   ·obtain⟨v,y,z,i,q⟩:=k2 g (by rw [e];rfl);refine Or.inr ⟨g,l,c,e,hl1,fun k hk=>?_⟩;by_cases d:lv.ownBlock=some g
    ·obtain⟨t,F,u,f,J⟩:=q d;rw [e]at f;simp only [Value.slice.injEq,true_and]at f;rcases key with ⟨a,_⟩ | ⟨a,hg2⟩
     ·have:g6=g:=by rw [d]at a;exact(Option.some.inj a).symm
      subst this;rw [E.cellAt k (by omega),t,List.getElem?_replicate,if_pos (by omega)]
     ·have O:w.grownBy w6 none:=il (iq (ir _ _)) hg2;rw [World.cell?_of_block (O.block g i (by simp))];exact hc k hk
    ·rw [World.cell?_of_block (p g i d)];exact hc k hk
  ·obtain⟨v,y,z,i,q⟩:=k2 g e;refine⟨v,y,z,by omega,fun a=>?_⟩;simp only [Value.ownBlock,Option.some.injEq]at a;by_cases d:lv.ownBlock=some g
   ·obtain⟨t,F,u,f,J⟩:=q d;exact⟨t,F,u,f,by omega⟩
   ·exact absurd a (j g i d)
 ·exact oh s.base s.wb G N (iA s.lrow)
end
end
section
open Go.RowKit
structure Role where
 k:Nat
 c:Nat
abbrev Role.other:Role:=⟨0,0⟩
abbrev Role.hands:Role:=⟨1,0⟩
abbrev Role.lst(c:Nat):Role:=⟨2,c⟩
abbrev Role.mrk(c:Nat):Role:=⟨3,c⟩
abbrev Role.kept:Role:=⟨4,0⟩
abbrev Role.cur:Role:=⟨5,0⟩
abbrev Role.lrow(c:Nat):Role:=⟨6,c⟩
abbrev Role.lent:Role:=⟨7,0⟩
def Role.lends(r:Role):Bool:=r.k==6 || r.k==7
def hcl(f:Nat->Value):Array Value:= #[f 0,f 1,f 2,f 3,f 4,f 5,f 6,f 7,f 8,f 9,f 10,f 11,f 12,f 13,f 14,f 15]
def setF(f:Nat->Value)(o:Nat)(v:Value):Nat->Value:=fun k=>if k=o then v else f k
theorem jM(f:Nat->Value)(o:Nat)(v:Value):setF f o v o=v:=by simp [setF]
theorem iN(f:Nat->Value){o k:Nat}(v:Value)(h:k≠o):setF f o v k=f k:=by simp [setF,h]
theorem Ce{o:Nat}(h:o<16):o=0\/o=1\/o=2\/o=3\/o=4\/o=5\/o=6\/o=7\/o=8\/o=9\/o=10\/o=11\/o=12\/o=13\/o=14\/o=15:=by omega
theorem Ai(f:Nat->Value){o:Nat}(h:o<16):(hcl f)[o]?=some (f o):=by
 rcases Ce h with rfl | rfl | rfl | rfl | rfl | rfl | rfl | rfl | rfl | rfl | rfl | rfl | rfl | rfl | rfl | rfl<;>rfl
theorem Aj(f:Nat->Value){o:Nat}(v:Value)(h:o<16):(hcl f).setIfInBounds o v=hcl (setF f o v):=by
 rcases Ce h with rfl | rfl | rfl | rfl | rfl | rfl | rfl | rfl | rfl | rfl | rfl | rfl | rfl | rfl | rfl | rfl<;>rfl
def HB(w:World)(b:Nat)(f:Nat->Value):Prop:=w.heap[b]?=some (.cells (hcl f) 45 (0,0))
theorem HB.cell{w:World}{b:Nat}{f:Nat->Value}(h:HB w b f){o:Nat}(a:o<16):w.cell? ⟨b,o,none⟩=some (f o):=by
 unfold HB at h;simp only [World.cell?,h];exact Ai f a
theorem HB.frozen{w:World}{b:Nat}{f:Nat->Value}(h:HB w b f)(o:Nat):w.frozen? ⟨b,o,none⟩=false:=by
 unfold HB at h;simp [World.frozen?,h]
theorem HB.lt{w:World}{b:Nat}{f:Nat->Value}(h:HB w b f):b<w.heap.size:=(Array.getElem?_eq_some_iff.1 h).1
theorem HB.set{w:World}{b:Nat}{f:Nat->Value}(h:HB w b f){o:Nat}(a:o<16)(v:Value):HB (w.setCell ⟨b,o,none⟩ v) b (setF f o v):=by
 unfold HB at*;rw [heap_setCell_same w b o _ _ v h,Aj f v a]
theorem HB.same{w w':World}{b:Nat}{f:Nat->Value}(h:HB w b f)(e:w'.heap[b]?=w.heap[b]?):HB w' b f:=by unfold HB at*;rw [e];exact h
def tlC:Nat->TypeId
 | 0=>39
 | 1=>27
 | 2=>29
 | 3=>66
 | _=>35
def teC:Nat->TypeId
 | 0=>3
 | 1=>76
 | 2=>28
 | 3=>65
 | _=>66
def elC(m:Int):Nat->List Value
 | 0=>[.int .i64 m]
 | 1=>[.int .i64 m,.int .i64 0]
 | 2=>[.int .i64 m,.int .i64 1,.int .i64 2,.int .i64 3]
 | 3=>[.int .i64 m,.int .i64 0,.int .i64 0,.int .i64 0]
 | _=>[]
def KeptIn(w:World)(who:Nat->Role)(g len:Nat)(m:Int)(c:Nat):Prop:=
 if c=4 then ∀ k,k<len->∃ g' cap',w.cell? ⟨g,k,none⟩=some (.slice (some ⟨g',0,none⟩) 1 cap')/\w.heap[g']?=some (.cells (elC m 3).toArray 65 (0,0))/\who g'= .kept
 else ∀ k,k<len->∀ j u,(elC m c)[j]?=some u->w.cell? ⟨g,k*(elC m c).length+j,none⟩=some u
theorem kl{w:World}{who:Nat->Role}{g len:Nat}{m:Int}:KeptIn w who g len m 4↔∀ k,k<len->∃ g' cap',w.cell? ⟨g,k,none⟩=some (.slice (some ⟨g',0,none⟩) 1 cap')/\w.heap[g']?=some (.cells (elC m 3).toArray 65 (0,0))/\who g'= .kept:=by
 unfold KeptIn;rw [if_pos rfl]
theorem jX{w:World}{who:Nat->Role}{g len:Nat}{m:Int}{c:Nat}(h:c≠4):KeptIn w who g len m c↔∀ k,k<len->∀ j u,(elC m c)[j]?=some u->w.cell? ⟨g,k*(elC m c).length+j,none⟩=some u:=by
 unfold KeptIn;rw [if_neg h]
def KeptC(c:Nat)(w:World)(who:Nat->Role)(x:Value × Int):Prop:=
 x.1= .slice none 0 0\/∃ g len cap,x.1= .slice (some ⟨g,0,none⟩) len cap/\len<=1000/\KeptIn w who g len x.2 c
structure Hs(B:Nat)(w:World)(b:Nat)(who:Nat->Role)(n:Int)(f:Nat->Value)(K:Nat->List (Value × Int))(M:Nat->List Int):Prop where
 blk:HB w b f
 cnt:f 5= .int .i64 n
 lst:∀ c,c<5->w.ownsRow B (tlC c) 1 (f (6+2*c)) (K c).length ((K c).map (·.1))
 mrk:∀ c,c<5->w.ownsRow B 3 1 (f (7+2*c)) (M c).length (ints (M c))
 wl:∀ c,c<5->∀ g,(f (6+2*c)).ownBlock=some g->who g= .lst c
 wm:∀ c,c<5->∀ g,(f (7+2*c)).ownBlock=some g->who g= .mrk c
 wb:who b= .hands
 kept:∀ c,c<5->∀ x∈K c,KeptC c w who x/\∀ g,x.1.ownBlock=some g->who g= .kept\/who g= .cur
 dom:∀ g,who g≠ .other->B<=g/\g<w.heap.size
theorem km{w w':World}{who:Nat->Role}{g len:Nat}{m:Int}{c:Nat}(h:KeptIn w who g len m c)(e:w'.heap[g]?=w.heap[g]?)(n:∀ g,who g= .kept->w'.heap[g]?=w.heap[g]?):KeptIn w' who g len m c:=by
 by_cases hc:c=4
 ·subst hc;rw [kl]at*;intro k a;obtain⟨b,f,i,l,d⟩:=h k a;exact⟨b,f,by rw [World.cell?_of_block e];exact i,by rw [n b d];exact l,d⟩
 ·rw [jX hc]at*;intro k a j u o;rw [World.cell?_of_block e];exact h k a j u o
theorem KeptC.same{w w':World}{who:Nat->Role}{c:Nat}{x:Value × Int}(h:KeptC c w who x)(b:∀ g,x.1.ownBlock=some g->who g= .kept\/who g= .cur)(a:∀ g,who g= .kept\/who g= .cur->w'.heap[g]?=w.heap[g]?):KeptC c w' who x:=by
 rcases h with h | ⟨g,len,cap,e,hl,hc⟩
 ·exact Or.inl h
 ·exact Or.inr ⟨g,len,cap,e,hl,km hc (a g (b g (by rw [e];rfl))) (fun g e=>a g (Or.inl e))⟩
theorem t7{w:World}{who b:Nat->Role}{g len:Nat}{m:Int}{c:Nat}(h:KeptIn w who g len m c)(j:∀ g,who g= .kept->b g= .kept):KeptIn w b g len m c:=by
 by_cases hc:c=4
 ·subst hc;rw [kl]at*;intro k l;obtain⟨a,d,e,f,i⟩:=h k l;exact⟨a,d,e,f,j a i⟩
 ·rw [jX hc]at*;exact h
theorem KeptC.who{w:World}{who a:Nat->Role}{c:Nat}{x:Value × Int}(h:KeptC c w who x)(b:∀ g,who g= .kept->a g= .kept):KeptC c w a x:=by
 rcases h with h | ⟨g,len,cap,e,hl,hc⟩
 ·exact Or.inl h
 ·exact Or.inr ⟨g,len,cap,e,hl,t7 hc b⟩
section
variable {B : Nat} {w w' : World} {b : Nat} {who who' : Nat -> Role} {n : Int} {f : Nat -> Value} {K : Nat -> List (Value × Int)} {M : Nat -> List Int}
theorem Hs.same(h:Hs B w b who n f K M)(hs:w.heap.size<=w'.heap.size)(d:∀ g,g<w.heap.size->who g≠ .other->(who g).lends=false->w'.heap[g]?=w.heap[g]?):Hs B w' b who n f K M:=by
 have a:∀ g,who g≠ .other->(who g).lends=false->w'.heap[g]?=w.heap[g]?:=fun g h1 h2=>d g (h.dom g h1).2 h1 h2
 have i:∀ g,who g= .kept\/who g= .cur->w'.heap[g]?=w.heap[g]?:=fun g e=>by
  rcases e with e | e<;>exact a g (by rw [e];simp) (by rw [e];rfl)
 refine⟨h.blk.same (a b (by rw [h.wb];simp) (by rw [h.wb];rfl)),h.cnt,fun c hc=>iI (h.lst c hc) (fun g e=>?_),fun c hc=>iI (h.mrk c hc) (fun g e=>?_),h.wl,h.wm,h.wb,fun c hc x hx=>?_,fun g e=>?_⟩
 ·have:=h.wl c hc g e;exact a g (by rw [this];simp) (by rw [this];rfl)
 ·have:=h.wm c hc g e;exact a g (by rw [this];simp) (by rw [this];rfl)
 ·obtain⟨k1,k2⟩:=h.kept c hc x hx;exact⟨k1.same k2 i,k2⟩
 ·have:=h.dom g e;exact⟨this.1,by omega⟩
theorem Hs.grown(h:Hs B w b who n f K M)(hg:w.grownBy w' none):Hs B w' b who n f K M:=h.same hg.size (fun g hg1 _ _=>hg.block g hg1 (by simp))
theorem Hs.like(h:Hs B w b who n f K M)(hl:Like w' w):Hs B w' b who n f K M:=h.grown (iH hl)
theorem Hs.more(h:Hs B w b who n f K M)(a:∀ g,who g≠ .other->who' g=who g)(d:∀ g,who' g≠ .other->B<=g/\g<w.heap.size):Hs B w b who' n f K M:=by
 have i:∀ g,who g= .kept\/who g= .cur->who' g= .kept\/who' g= .cur:=fun g e=>by
  have:who' g=who g:=a g (by rcases e with e | e<;>rw [e]<;>simp);rw [this];exact e
 refine⟨h.blk,h.cnt,h.lst,h.mrk,fun c hc g e=>?_,fun c hc g e=>?_,?_,fun c hc x hx=>?_,d⟩
 ·have:=h.wl c hc g e;rw [a g (by rw [this];simp),this]
 ·have:=h.wm c hc g e;rw [a g (by rw [this];simp),this]
 ·rw [a b (by rw [h.wb];simp),h.wb]
 ·obtain⟨k1,k2⟩:=h.kept c hc x hx;exact⟨k1.who (fun g e=>by rw [a g (by rw [e];simp)];exact e),fun g e=>i g (k2 g e)⟩
theorem Hs.setLent(h:Hs B w b who n f K M){o:Nat}(ho:o<5)(v:Value):Hs B (w.setCell ⟨b,o,none⟩ v) b who n (setF f o v) K M:=by
 have a:∀ g,who g≠ .hands->(w.setCell ⟨b,o,none⟩ v).heap[g]?=w.heap[g]?:=fun g e=>Below.heap_setCell _ _ _ _ (by intro d;simp only at d;rw [d]at e;exact e h.wb)
 have i:∀ g,who g= .kept\/who g= .cur->(w.setCell ⟨b,o,none⟩ v).heap[g]?=w.heap[g]?:=fun g e=>a g (by rcases e with e | e<;>rw [e]<;>simp)
 refine⟨h.blk.set (by omega) v,by rw [iN _ _ (by omega)];exact h.cnt,fun c hc=>?_,fun c hc=>?_,fun c hc=>?_,fun c hc=>?_,h.wb,fun c hc x hx=>?_,fun g e=>?_⟩
 ·rw [iN _ _ (by omega)];exact iI (h.lst c hc) (fun g e=>a g (by rw [h.wl c hc g e];simp))
 ·rw [iN _ _ (by omega)];exact iI (h.mrk c hc) (fun g e=>a g (by rw [h.wm c hc g e];simp))
 ·rw [iN _ _ (by omega)];exact h.wl c hc
 ·rw [iN _ _ (by omega)];exact h.wm c hc
 ·obtain⟨k1,k2⟩:=h.kept c hc x hx;exact⟨k1.same k2 i,k2⟩
 ·have:=h.dom g e;exact⟨this.1,by simpa using this.2⟩
theorem Hs.setCnt(h:Hs B w b who n f K M)(m:Int):Hs B (w.setCell ⟨b,5,none⟩ (.int .i64 m)) b who m (setF f 5 (.int .i64 m)) K M:=by
 have a:∀ g,who g≠ .hands->(w.setCell ⟨b,5,none⟩ (.int .i64 m)).heap[g]?=w.heap[g]?:=fun g e=>Below.heap_setCell _ _ _ _ (by intro d;simp only at d;rw [d]at e;exact e h.wb)
 have i:∀ g,who g= .kept\/who g= .cur->(w.setCell ⟨b,5,none⟩ (.int .i64 m)).heap[g]?=w.heap[g]?:=fun g e=>a g (by rcases e with e | e<;>rw [e]<;>simp)
 refine⟨h.blk.set (by omega) _,jM _ _ _,fun c hc=>?_,fun c hc=>?_,fun c hc=>?_,fun c hc=>?_,h.wb,fun c hc x hx=>?_,fun g e=>?_⟩
 ·rw [iN _ _ (by omega)];exact iI (h.lst c hc) (fun g e=>a g (by rw [h.wl c hc g e];simp))
 ·rw [iN _ _ (by omega)];exact iI (h.mrk c hc) (fun g e=>a g (by rw [h.wm c hc g e];simp))
 ·rw [iN _ _ (by omega)];exact h.wl c hc
 ·rw [iN _ _ (by omega)];exact h.wm c hc
 ·obtain⟨k1,k2⟩:=h.kept c hc x hx;exact⟨k1.same k2 i,k2⟩
 ·have:=h.dom g e;exact⟨this.1,by simpa using this.2⟩
end
def setW(who:Nat->Role)(g:Nat)(r:Role):Nat->Role:=fun k=>if k=g then r else who k
theorem iY(who:Nat->Role)(g:Nat)(r:Role):setW who g r g=r:=by simp [setW]
theorem iJ(who:Nat->Role){g k:Nat}(r:Role)(h:k≠g):setW who g r k=who k:=by simp [setW,h]
def setK(K:Nat->List (Value × Int))(c:Nat)(l:List (Value × Int)):Nat->List (Value × Int):=fun k=>if k=c then l else K k
theorem kN(K:Nat->List (Value × Int))(c:Nat)(l:List (Value × Int)):setK K c l c=l:=by simp [setK]
theorem kO(K:Nat->List (Value × Int)){c k:Nat}(l:List (Value × Int))(h:k≠c):setK K c l k=K k:=by simp [setK,h]
def setM(M:Nat->List Int)(c:Nat)(l:List Int):Nat->List Int:=fun k=>if k=c then l else M k
theorem vc(M:Nat->List Int)(c:Nat)(l:List Int):setM M c l c=l:=by simp [setM]
theorem vd(M:Nat->List Int){c k:Nat}(l:List Int)(h:k≠c):setM M c l k=M k:=by simp [setM,h]
def marksOf(K:Nat->List (Value × Int)):Nat->List Int:=fun c=>(K c).map (·.2)
structure Fr(w w':World)(who who':Nat->Role)(ex:Nat->Prop):Prop where
 os:w'.os=w.os
 tape:w'.tape=w.tape
 output:w'.output=w.output
 size:w.heap.size<=w'.heap.size
 oth:∀ g,g<w.heap.size->who g= .other->¬ex g->w'.heap[g]?=w.heap[g]?/\who' g= .other
theorem Fr.refl(w:World)(who:Nat->Role)(ex:Nat->Prop):Fr w w who who ex:=⟨rfl,rfl,rfl,Nat.le_refl _,fun _ _ h _=>⟨rfl,h⟩⟩
theorem Fr.trans{w w1 w2:World}{who who1 who2:Nat->Role}{ex:Nat->Prop}(h:Fr w w1 who who1 ex)(h':Fr w1 w2 who1 who2 ex):Fr w w2 who who2 ex:=
 ⟨h'.os.trans h.os,h'.tape.trans h.tape,h'.output.trans h.output,Nat.le_trans h.size h'.size,fun g h1 h2 h3=>by
  obtain⟨a,b⟩:=h.oth g h1 h2 h3;obtain⟨c,d⟩:=h'.oth g (Nat.lt_of_lt_of_le h1 h.size) b h3;exact⟨c.trans a,d⟩⟩
theorem Fr.mono{w w':World}{who who':Nat->Role}{ex ex':Nat->Prop}(h:Fr w w' who who' ex)(he:∀ g,ex g->ex' g):Fr w w' who who' ex':=
 ⟨h.os,h.tape,h.output,h.size,fun g h1 h2 h3=>h.oth g h1 h2 (fun e=>h3 (he g e))⟩
theorem Fr.grown{w w':World}{who:Nat->Role}{ex:Nat->Prop}(h:w.grownBy w' none):Fr w w' who who ex:=⟨h.os,h.tape,h.output,h.size,fun g h1 h2 _=>⟨h.block g h1 (by simp),h2⟩⟩
theorem Fr.like{w w':World}{who:Nat->Role}{ex:Nat->Prop}(h:Like w' w):Fr w w' who who ex:=Fr.grown (iH h)
theorem Fr.set{w:World}{who:Nat->Role}{ex:Nat->Prop}{g o:Nat}{v:Value}(h:who g≠ .other\/ex g):Fr w (w.setCell ⟨g,o,none⟩ v) who who ex:=
 ⟨rfl,rfl,rfl,by simp,fun k _ h2 h3=>⟨Below.heap_setCell _ _ _ _ (fun e=>by simp only at e;subst e;rcases h with h | h;exact h h2;exact h3 h),h2⟩⟩
theorem Fr.setW{w w':World}{who who':Nat->Role}{ex:Nat->Prop}{g:Nat}{r:Role}(h:Fr w w' who who' ex)(hg:w.heap.size<=g\/who' g≠ .other\/ex g):Fr w w' who (setW who' g r) ex:=
 ⟨h.os,h.tape,h.output,h.size,fun k h1 h2 h3=>by
  obtain⟨a,b⟩:=h.oth k h1 h2 h3;refine⟨a,?_⟩;rw [iJ]
  ·exact b
  ·intro e;subst e
   rcases hg with hg | hg | hg
   ·omega
   ·exact hg b
   ·exact h3 hg⟩
theorem Fr.key{w w6:World}{who:Nat->Role}{d:Nat->Prop}{o:Obj}{v:Value}{g6:Nat}{r:Role}(c:∀ g,v.ownBlock=some g->who g≠ .other)(key:(v.ownBlock=some g6/\(w.alloc o).grownBy w6 (some g6))\/(g6=w.heap.size+1/\(w.alloc o).grownBy w6 none)):
  Fr w w6 who (Go.Proofs.YtklenjmfalljgabGreatDoor.setW who g6 r) d:=by
 rcases key with ⟨e,hg⟩ | ⟨e,hg⟩
 ·have b:w.grownBy w6 (some g6):=il (iq (ir _ _)) hg;refine Fr.setW ⟨b.os,b.tape,b.output,b.size,fun k h1 h2 _=>⟨b.block k h1 (fun e2=>?_),h2⟩⟩ (Or.inr (Or.inl (c g6 e)));simp only [Option.some.injEq]at e2;subst e2;exact c _ e h2
 ·exact Fr.setW (Fr.grown (il (iq (ir _ _)) hg)) (Or.inl (by omega))
theorem Fr.base{W w w':World}{who f:Nat->Role}{b:Nat->Prop}{B:Nat}(h:Fr w w' who f b)(a:W.grownBy w none)(hB:W.heap.size<=B)(c:∀ g,who g≠ .other->B<=g)(d:∀ g,b g->W.heap.size<=g):W.grownBy w' none:=
 ⟨h.os.trans a.os,h.tape.trans a.tape,h.output.trans a.output,Nat.le_trans a.size h.size,fun k hk _=>by
  have ho:who k= .other:=by
   by_cases e:who k= .other
   ·exact e
   ·exact absurd (c k e) (by omega)
  rw [(h.oth k (Nat.lt_of_lt_of_le hk a.size) ho (fun e=>by have:=d k e;omega)).1];exact a.block k hk (by simp)⟩
structure Cur(B:Nat)(w:World)(who:Nat->Role)(m:Int)(c:Nat)(lv:Value)(len:Nat)(K:Nat->List (Value × Int)):Prop where
 row:w.ownsRow B (teC c) (elC m c).length lv len (List.replicate len (elC m c)).flatten
 wc:∀ g,lv.ownBlock=some g->who g= .cur
 ent:∀ x∈K c,∀ g,x.1.ownBlock=some g->who g= .cur->x.2=m/\∃ l c',x.1= .slice (some ⟨g,0,none⟩) l c'/\(lv.ownBlock=some g->l<=len)
 oth:∀ c',c'<5->c'≠c->∀ x∈K c',∀ g,x.1.ownBlock=some g->who g= .kept
 ln:len<=1000
section
variable {B : Nat} {w w6 : World} {b : Nat} {who : Nat -> Role} {n m : Int} {f : Nat -> Value} {K : Nat -> List (Value × Int)} {M : Nat -> List Int} {c : Nat} {lv : Value} {len : Nat}
theorem jW(e:List Value)(k:Nat):((List.replicate k e).flatten).length=k*e.length:=by
 induction k with
 | zero=>simp
 | succ k ih=>rw [List.replicate_succ,List.flatten_cons,List.length_append,ih,Nat.succ_mul];omega
theorem qN(e:List Value)(n k j:Nat)(u:Value)(hk:k<n)(a:e[j]?=some u):((List.replicate n e).flatten)[k*e.length+j]?=some u:=by
 induction n generalizing k with
 | zero=>omega
 | succ n ih=>
  have b:=(List.getElem?_eq_some_iff.1 a).1;rw [List.replicate_succ,List.flatten_cons];cases k with
  | zero=>rw [Nat.zero_mul,Nat.zero_add,List.getElem?_append_left b];exact a
  | succ k=>
   rw [List.getElem?_append_right (by rw [Nat.succ_mul];omega),Nat.succ_mul];have:k*e.length+e.length+j - e.length=k*e.length+j:=by omega
   rw [this];exact ih k (by omega)
theorem jw(e:List Value)(n:Nat):(List.replicate n e).flatten++e=(List.replicate (n+1) e).flatten:=by
 rw [List.replicate_succ',List.flatten_append];simp
theorem Cur.keptNow(a:Cur B w who m c lv len K)(hc:c<4):KeptC c w who (lv,m):=by
 rcases a.row.2 with ⟨e,_⟩ | ⟨g,cap,cur,hv,hbb,hh,hrest⟩
 ·exact Or.inl e
 ·refine Or.inr ⟨g,len,cap,hv,a.ln,?_⟩;have b:=a.row;rw [hv]at b;have f:∀ k,k<len->∀ j u,(elC m c)[j]?=some u->w.cell? ⟨g,k*(elC m c).length+j,none⟩=some u:=fun k hk j u hu=>by
   have hjl:=(List.getElem?_eq_some_iff.1 hu).1;have d:(k+1)*(elC m c).length<=len*(elC m c).length:=Nat.mul_le_mul_right _ hk;rw [Nat.succ_mul]at d;rw [b.cellAt _ (by omega)];exact qN _ _ _ _ _ hk hu
  exact(jX (by omega)).2 f
theorem jp{v:Value}{o:Obj}{g6:Nat}(key:(v.ownBlock=some g6/\(w.alloc o).grownBy w6 (some g6))\/(g6=w.heap.size+1/\(w.alloc o).grownBy w6 none))(c:∀ g,who g≠ .other->g<w.heap.size){r:Role}(i:r≠ .other)(j:∀ g,v.ownBlock=some g->who g=r):
  w.heap.size<=w6.heap.size/\(∀ g,who g≠ .other->who g≠r->w6.heap[g]?=w.heap[g]?/\g6≠g)/\(∀ g,who g=r->g6≠g->w6.heap[g]?=w.heap[g]?)/\(g6<w.heap.size->who g6=r):=by
 rcases key with ⟨e,hg⟩ | ⟨e,hg⟩
 ·have b:w.grownBy w6 (some g6):=il (iq (ir _ _)) hg;have d:=j g6 e;refine⟨b.size,fun g h1 h2=>?_,fun g h1 h2=>b.block g (c g (by rw [h1];exact i)) (by simpa using fun e2=>h2 e2.symm),fun _=>d⟩;have f:g6≠g:=fun e2=>h2 (by rw [<-e2];exact d)
  exact⟨b.block g (c g h1) (by simpa using fun e2=>f e2.symm),f⟩
 ·have b:w.grownBy w6 none:=il (iq (ir _ _)) hg;refine⟨b.size,fun g h1 h2=>⟨b.block g (c g h1) (by simp),by have:=c g h1;omega⟩,fun g h1 h2=>b.block g (c g (by rw [h1];exact i)) (by simp),fun h=>by omega⟩
end
section
variable {B : Nat} {w w6 : World} {b : Nat} {who : Nat -> Role} {n m : Int} {f : Nat -> Value} {K : Nat -> List (Value × Int)} {M : Nat -> List Int} {c : Nat} {lv : Value} {len : Nat}
theorem Hs.push(h:Hs B w b who n f K M)(i:Cur B w who m c lv len K)(hc:c<4){o:Obj}{g6 c6:Nat}
  (y:w6.ownsRow B (tlC c) 1 (.slice (some ⟨g6,0,none⟩) ((K c).length+1) c6) ((K c).length+1) ((K c).map (·.1)++[lv]))
  (key:((f (6+2*c)).ownBlock=some g6/\(w.alloc o).grownBy w6 (some g6))\/(g6=w.heap.size+1/\(w.alloc o).grownBy w6 none)):
  Hs B (w6.setCell ⟨b,6+2*c,none⟩ (.slice (some ⟨g6,0,none⟩) ((K c).length+1) c6)) b (setW who g6 (.lst c)) n (setF f (6+2*c) (.slice (some ⟨g6,0,none⟩) ((K c).length+1) c6)) (setK K c (K c++[(lv,m)])) M/\
  Cur B (w6.setCell ⟨b,6+2*c,none⟩ (.slice (some ⟨g6,0,none⟩) ((K c).length+1) c6)) (setW who g6 (.lst c)) m c lv len (setK K c (K c++[(lv,m)])):=by
 have H:c<5:=by omega
 obtain⟨hsz,s,hsr,h6r⟩:=jp key (fun g e=>(h.dom g e).2) (r:= .lst c) (by simp) (h.wl c H);have F:g6≠b:=(s b (by rw [h.wb];simp) (by rw [h.wb];simp)).2;have G:HB w6 b f:=h.blk.same (s b (by rw [h.wb];simp) (by rw [h.wb];simp)).1;generalize D:Value.slice (some ⟨g6,0,none⟩) ((K c).length+1) c6=V at*;have q:V.ownBlock=some g6:=by rw [<-D];rfl
 have v:∀ g,who g≠ .other->who g≠ .lst c->g≠b->(w6.setCell ⟨b,6+2*c,none⟩ V).heap[g]?=w.heap[g]?:=fun g j k h3=>by
  rw [Below.heap_setCell _ _ _ _ (by simpa using h3)];exact(s g j k).1
 have p:∀ g,who g≠ .other->who g≠ .lst c->setW who g6 (.lst c) g=who g:=fun g j k=>iJ _ _ (fun e=>(s g j k).2 e.symm)
 have A:∀ g,who g= .kept\/who g= .cur->(w6.setCell ⟨b,6+2*c,none⟩ V).heap[g]?=w.heap[g]?:=fun g e=>v g (by rcases e with e | e<;>rw [e]<;>simp) (by rcases e with e | e<;>rw [e]<;>simp) (fun d=>by subst d;rw [h.wb]at e;rcases e with e | e<;>cases e)
 have u:∀ g,who g= .kept->setW who g6 (.lst c) g= .kept:=fun g e=>by rw [p g (by rw [e];simp) (by rw [e];simp)];exact e
 have t:∀ g,who g= .cur->setW who g6 (.lst c) g= .cur:=fun g e=>by rw [p g (by rw [e];simp) (by rw [e];simp)];exact e
 have E:∀ g,who g= .kept\/who g= .cur->setW who g6 (.lst c) g= .kept\/setW who g6 (.lst c) g= .cur:=fun g e=>e.imp (u g) (t g)
 have I:∀ g,setW who g6 (.lst c) g= .cur->who g= .cur:=fun g e=>by
  by_cases d:g=g6
  ·subst d;rw [iY]at e;cases e
  ·rwa [iJ _ _ d]at e
 have C:∀ c' x,c'<5->x∈K c'->KeptC c' (w6.setCell ⟨b,6+2*c,none⟩ V) (setW who g6 (.lst c)) x/\∀ g,x.1.ownBlock=some g->setW who g6 (.lst c) g= .kept\/setW who g6 (.lst c) g= .cur:=fun c' x hc' hx=>by
  obtain⟨k1,k2⟩:=h.kept c' hc' x hx;exact⟨(k1.same k2 A).who u,fun g e=>E g (k2 g e)⟩
 have J:(w6.setCell ⟨b,6+2*c,none⟩ V).ownsRow B (teC c) (elC m c).length lv len (List.replicate len (elC m c)).flatten:=iI i.row (fun g e=>A g (Or.inr (i.wc g e)));have z:Cur B (w6.setCell ⟨b,6+2*c,none⟩ V) (setW who g6 (.lst c)) m c lv len (setK K c (K c++[(lv,m)])):=by
  refine⟨J,fun g e=>t g (i.wc g e),fun x hx g e d=>?_,fun c' hc' hne x hx g e=>?_,i.ln⟩
  ·rw [kN]at hx;rcases List.mem_append.1 hx with hx | hx
   ·exact i.ent x hx g e (I g d)
   ·simp at hx;subst hx;refine⟨rfl,?_⟩;rcases i.row.2 with ⟨e3,_⟩ | ⟨g',cap,cur,hv,_⟩
    ·simp only at e;rw [e3]at e;cases e
    ·simp only at e;rw [hv]at e;simp only [Value.ownBlock,Option.some.injEq]at e;exact⟨len,cap,by rw [hv,e],fun _=>Nat.le_refl _⟩
  ·rw [kO _ _ hne]at hx;exact u g (i.oth c' hc' hne x hx g e)
 refine⟨⟨G.set (by omega) V,by rw [iN _ _ (by omega)];exact h.cnt,fun c' hc'=>?_,fun c' hc'=>?_,fun c' hc' g e=>?_,fun c' hc' g e=>?_,?_,fun c' hc' x hx=>?_,fun g e=>?_⟩,z⟩
 ·by_cases e:c'=c
  ·subst e;rw [jM,kN];have:=ownsRow_setCell_other (a:=⟨b,6+2*c',none⟩) y (show V.ownBlock≠some b by rw [q];simpa using F) V;simpa using this
  ·rw [iN _ _ (by omega),kO _ _ e];exact iI (h.lst c' hc') (fun g d=>v g (by rw [h.wl c' hc' g d];simp) (by rw [h.wl c' hc' g d];simpa using e) (fun e3=>by subst e3;have:=h.wl c' hc' g d;rw [h.wb]at this;cases this))
 ·rw [iN _ _ (by omega)];exact iI (h.mrk c' hc') (fun g d=>v g (by rw [h.wm c' hc' g d];simp) (by rw [h.wm c' hc' g d];simp) (fun e3=>by subst e3;have:=h.wm c' hc' g d;rw [h.wb]at this;cases this))
 ·by_cases d:c'=c
  ·subst d;rw [jM,q]at e;simp only [Option.some.injEq]at e;subst e;exact iY _ _ _
  ·rw [iN _ _ (by omega)]at e;have:=h.wl c' hc' g e;rw [p g (by rw [this];simp) (by rw [this];simpa using d),this]
 ·rw [iN _ _ (by omega)]at e;have:=h.wm c' hc' g e;rw [p g (by rw [this];simp) (by rw [this];simp),this]
 ·rw [p b (by rw [h.wb];simp) (by rw [h.wb];simp),h.wb]
 ·by_cases d:c'=c
  ·subst d;rw [kN]at hx;rcases List.mem_append.1 hx with hx | hx
   ·exact C c' x hc' hx
   ·simp at hx;subst hx;exact⟨z.keptNow hc,fun g e=>Or.inr (t g (i.wc g e))⟩
  ·rw [kO _ _ d]at hx;exact C c' x hc' hx
 ·by_cases d:g=g6
  ·subst d;have j:=iA y g q;have k:=iP y g q;exact⟨j,by simpa using k⟩
  ·rw [iJ _ _ d]at e;have:=h.dom g e;exact⟨this.1,by simp;omega⟩
theorem Hs.tell(h:Hs B w b who n f K M)(i:Cur B w who m c lv len K)(hc:c<4){o:Obj}{g6 c6:Nat}
  (u:w6.ownsRow B 3 1 (.slice (some ⟨g6,0,none⟩) ((M c).length+1) c6) ((M c).length+1) (ints (M c)++[.int .i64 m]))
  (key:((f (7+2*c)).ownBlock=some g6/\(w.alloc o).grownBy w6 (some g6))\/(g6=w.heap.size+1/\(w.alloc o).grownBy w6 none)):
  Hs B (w6.setCell ⟨b,7+2*c,none⟩ (.slice (some ⟨g6,0,none⟩) ((M c).length+1) c6)) b (setW who g6 (.mrk c)) n (setF f (7+2*c) (.slice (some ⟨g6,0,none⟩) ((M c).length+1) c6)) K (setM M c (M c++[m]))/\
  Cur B (w6.setCell ⟨b,7+2*c,none⟩ (.slice (some ⟨g6,0,none⟩) ((M c).length+1) c6)) (setW who g6 (.mrk c)) m c lv len K:=by
 have D:c<5:=by omega
 obtain⟨hsz,q,hsr,h6r⟩:=jp key (fun g e=>(h.dom g e).2) (r:= .mrk c) (by simp) (h.wm c D);have A:g6≠b:=(q b (by rw [h.wb];simp) (by rw [h.wb];simp)).2;have C:HB w6 b f:=h.blk.same (q b (by rw [h.wb];simp) (by rw [h.wb];simp)).1;generalize z:Value.slice (some ⟨g6,0,none⟩) ((M c).length+1) c6=V at*;have p:V.ownBlock=some g6:=by rw [<-z];rfl
 have t:∀ g,who g≠ .other->who g≠ .mrk c->g≠b->(w6.setCell ⟨b,7+2*c,none⟩ V).heap[g]?=w.heap[g]?:=fun g j k h3=>by
  rw [Below.heap_setCell _ _ _ _ (by simpa using h3)];exact(q g j k).1
 have l:∀ g,who g≠ .other->who g≠ .mrk c->setW who g6 (.mrk c) g=who g:=fun g j k=>iJ _ _ (fun e=>(q g j k).2 e.symm)
 have y:∀ g,who g= .kept\/who g= .cur->(w6.setCell ⟨b,7+2*c,none⟩ V).heap[g]?=w.heap[g]?:=fun g e=>t g (by rcases e with e | e<;>rw [e]<;>simp) (by rcases e with e | e<;>rw [e]<;>simp) (fun d=>by subst d;rw [h.wb]at e;rcases e with e | e<;>cases e)
 have s:∀ g,who g= .kept->setW who g6 (.mrk c) g= .kept:=fun g e=>by rw [l g (by rw [e];simp) (by rw [e];simp)];exact e
 have v:∀ g,who g= .cur->setW who g6 (.mrk c) g= .cur:=fun g e=>by rw [l g (by rw [e];simp) (by rw [e];simp)];exact e
 have E:∀ g,setW who g6 (.mrk c) g= .cur->who g= .cur:=fun g e=>by
  by_cases d:g=g6
  ·subst d;rw [iY]at e;cases e
  ·rwa [iJ _ _ d]at e
 refine⟨⟨C.set (by omega) V,by rw [iN _ _ (by omega)];exact h.cnt,fun c' hc'=>?_,fun c' hc'=>?_,fun c' hc' g e=>?_,fun c' hc' g e=>?_,?_,fun c' hc' x hx=>?_,fun g e=>?_⟩,
  ⟨iI i.row (fun g e=>y g (Or.inr (i.wc g e))),fun g e=>v g (i.wc g e),fun x hx g e d=>i.ent x hx g e (E g d),fun c' hc' hne x hx g e=>s g (i.oth c' hc' hne x hx g e),i.ln⟩⟩
 ·rw [iN _ _ (by omega)];exact iI (h.lst c' hc') (fun g d=>t g (by rw [h.wl c' hc' g d];simp) (by rw [h.wl c' hc' g d];simp) (fun e3=>by subst e3;have:=h.wl c' hc' g d;rw [h.wb]at this;cases this))
 ·by_cases e:c'=c
  ·subst e;rw [jM,vc];have:=ownsRow_setCell_other (a:=⟨b,7+2*c',none⟩) u (show V.ownBlock≠some b by rw [p];simpa using A) V;simpa [ints]using this
  ·rw [iN _ _ (by omega),vd _ _ e];exact iI (h.mrk c' hc') (fun g d=>t g (by rw [h.wm c' hc' g d];simp) (by rw [h.wm c' hc' g d];simpa using e) (fun e3=>by subst e3;have:=h.wm c' hc' g d;rw [h.wb]at this;cases this))
 ·rw [iN _ _ (by omega)]at e;have:=h.wl c' hc' g e;rw [l g (by rw [this];simp) (by rw [this];simp),this]
 ·by_cases d:c'=c
  ·subst d;rw [jM,p]at e;simp only [Option.some.injEq]at e;subst e;exact iY _ _ _
  ·rw [iN _ _ (by omega)]at e;have:=h.wm c' hc' g e;rw [l g (by rw [this];simp) (by rw [this];simpa using d),this]
 ·rw [l b (by rw [h.wb];simp) (by rw [h.wb];simp),h.wb]
 ·obtain⟨k1,k2⟩:=h.kept c' hc' x hx;exact⟨(k1.same k2 y).who s,fun g e=>(k2 g e).imp (s g) (v g)⟩
 ·by_cases d:g=g6
  ·subst d;have j:=iA u g p;have k:=iP u g p;exact⟨j,by simpa using k⟩
  ·rw [iJ _ _ d]at e;have:=h.dom g e;exact⟨this.1,by simp;omega⟩
theorem Hs.grow(h:Hs B w b who n f K M)(d:Cur B w who m c lv len K)(hc:c<4)(T:len+1<=1000){o:Obj}{g6 c6:Nat}
  (q:w6.ownsRow B (teC c) (elC m c).length (.slice (some ⟨g6,0,none⟩) (len+1) c6) (len+1) ((List.replicate len (elC m c)).flatten++elC m c))
  (key:(lv.ownBlock=some g6/\(w.alloc o).grownBy w6 (some g6))\/(g6=w.heap.size+1/\(w.alloc o).grownBy w6 none)):
  Hs B w6 b (setW who g6 .cur) n f K M/\Cur B w6 (setW who g6 .cur) m c (.slice (some ⟨g6,0,none⟩) (len+1) c6) (len+1) K:=by
 obtain⟨hsz,V,J,G⟩:=jp key (fun g e=>(h.dom g e).2) (r:= .cur) (by simp) d.wc;have p:∀ g,who g≠ .other->setW who g6 .cur g=who g:=fun g h1=>by
  by_cases e:g=g6
  ·subst e;rw [iY];exact(G (h.dom g h1).2).symm
  ·exact iJ _ _ e
 have O:∀ g,setW who g6 .cur g= .cur->g=g6\/who g= .cur:=fun g e=>by
  by_cases a:g=g6
  ·exact Or.inl a
  ·rw [iJ _ _ a]at e;exact Or.inr e
 have s:∀ g,who g≠ .other->who g≠ .cur->w6.heap[g]?=w.heap[g]?:=fun g h1 v=>(V g h1 v).1
 rw [jw]at q;have Q:∀ g,lv.ownBlock=some g->∀ k,k<len*(elC m c).length->w6.cell? ⟨g,k,none⟩=w.cell? ⟨g,k,none⟩:=fun g e k hk=>by
  by_cases a:g6=g
  ·subst a;rcases d.row.2 with ⟨i,_⟩ | ⟨g',cap,cur,hv,_⟩
   ·rw [i]at e;cases e
   ·have I:=d.row;rw [hv]at e;simp only [Value.ownBlock,Option.some.injEq]at e;subst e;rw [hv]at I;have y:k<(len+1)*(elC m c).length:=by rw [Nat.succ_mul];omega
    rw [q.cellAt k y,I.cellAt k hk,<-jw,List.getElem?_append_left (by rw [jW];exact hk)]
  ·exact World.cell?_of_block (J g (d.wc g e) a)
 have P:∀ g,who g= .cur->lv.ownBlock≠some g->w6.heap[g]?=w.heap[g]?:=fun g e a=>by
  by_cases i:g6=g
  ·subst i;rcases key with ⟨k1,_⟩ | ⟨k1,_⟩
   ·exact absurd k1 a
   ·have:=(h.dom g6 (by rw [e];simp)).2;omega
  ·exact J g e i
 have U:∀ c' x,c'<5->x∈K c'->KeptC c' w6 (setW who g6 .cur) x/\∀ g,x.1.ownBlock=some g->setW who g6 .cur g= .kept\/setW who g6 .cur g= .cur:=fun c' x hc' hx=>by
  obtain⟨k1,k2⟩:=h.kept c' hc' x hx;refine⟨?_,fun g e=>?_⟩
  ·refine KeptC.who (who:=who) ?_ (fun g e=>by rw [p g (by rw [e];simp)];exact e);rcases k1 with k1 | ⟨g,l,cap,e,hl,hin⟩
   ·exact Or.inl k1
   ·refine Or.inr ⟨g,l,cap,e,hl,?_⟩;have E:x.1.ownBlock=some g:=by rw [e];rfl
    have z:∀ g,who g= .kept->w6.heap[g]?=w.heap[g]?:=fun g e=>s g (by rw [e];simp) (by rw [e];simp)
    rcases k2 g E with hkp | hcr
    ·exact km hin (z g hkp) z
    ·by_cases H:c'=c
     ·subst H;by_cases C:lv.ownBlock=some g
      ·obtain⟨D,N,F,t,A⟩:=d.ent x hx g E hcr;rw [t]at e;simp only [Value.slice.injEq,true_and]at e;have hl4:l<=len:=by have:=A C;omega
       have S:∀ k,k<l->∀ j u,(elC x.2 c')[j]?=some u->w.cell? ⟨g,k*(elC x.2 c').length+j,none⟩=some u->w6.cell? ⟨g,k*(elC x.2 c').length+j,none⟩=some u:=fun k hk j u hu h0=>by
        have hjl:=(List.getElem?_eq_some_iff.1 hu).1;have v:(k+1)*(elC x.2 c').length<=len*(elC x.2 c').length:=Nat.mul_le_mul_right _ (by omega);rw [Nat.succ_mul]at v;rw [Q g C _ (by rw [<-D];omega)];exact h0
       rw [jX (by omega)]at hin ⊢;exact fun k hk j u hu=>S k hk j u hu (hin k hk j u hu)
      ·exact km hin (P g hcr C) z
     ·have:=d.oth c' hc' H x hx g E;rw [hcr]at this;cases this
  ·have:=k2 g e;rw [p g (by rcases this with e | e<;>rw [e]<;>simp)];exact this
 refine⟨⟨h.blk.same (s b (by rw [h.wb];simp) (by rw [h.wb];simp)),h.cnt,fun c' hc'=>iI (h.lst c' hc') (fun g e=>s g (by rw [h.wl c' hc' g e];simp) (by rw [h.wl c' hc' g e];simp)),fun c' hc'=>iI (h.mrk c' hc') (fun g e=>s g (by rw [h.wm c' hc' g e];simp) (by rw [h.wm c' hc' g e];simp)),
  fun c' hc' g e=>(by rw [p g (by rw [h.wl c' hc' g e];simp)];exact h.wl c' hc' g e),fun c' hc' g e=>(by rw [p g (by rw [h.wm c' hc' g e];simp)];exact h.wm c' hc' g e),(by rw [p b (by rw [h.wb];simp)];exact h.wb),fun c' hc' x hx=>U c' x hc' hx,fun g e=>?_⟩,
  ⟨q,fun g e=>(by simp only [Value.ownBlock,Option.some.injEq]at e;subst e;exact iY _ _ _),fun x hx g e a=>?_,fun c' hc' hne x hx g e=>?_,T⟩⟩
 ·by_cases a:g=g6
  ·subst a;exact⟨iA q g rfl,iP q g rfl⟩
  ·rw [iJ _ _ a]at e;have:=h.dom g e;exact⟨this.1,by omega⟩
 ·have L:who g= .cur:=by
   rcases O g a with i | i
   ·have y:=(h.kept c (by omega) x hx).2 g e;have R:=(h.dom g (by rcases y with e | e<;>rw [e]<;>simp)).2;subst i;exact G R
   ·exact i
  obtain⟨D,N,F,t,A⟩:=d.ent x hx g e L;refine⟨D,N,F,t,fun e6=>?_⟩;simp only [Value.ownBlock,Option.some.injEq]at e6;subst e6;rcases key with ⟨k1,_⟩ | ⟨k1,_⟩
  ·have:=A k1;omega
  ·have:=(h.dom g6 (by rw [L];simp)).2;omega
 ·have:=d.oth c' hc' hne x hx g e;rw [p g (by rw [this];simp)];exact this
theorem Hs.begin(h:Hs B w b who n f K M)(hc:c<4)(d:∀ c',c'<5->∀ x∈K c',∀ g,x.1.ownBlock=some g->who g= .kept)(j:w.ownsRow B (teC c) (elC m c).length lv len (List.replicate len (elC m c)).flatten)(k:len<=1000)
  (o:∀ g,lv.ownBlock=some g->who g= .other):∃ who',Hs B w b who' n f K M/\Cur B w who' m c lv len K/\(∀ g,lv.ownBlock≠some g->who' g=who g):=by
 rcases j.2 with ⟨e,_⟩ | ⟨g0,cap,cur,hv,hbb,hh,hrest⟩
 ·refine⟨who,h,⟨j,fun g a=>(by rw [e]at a;cases a),fun x hx g a e3=>?_,fun c' hc' hne x hx g a=>d c' hc' x hx g a,k⟩,fun _ _=>rfl⟩;rw [d c (by omega) x hx g a]at e3;cases e3
 ·have i:lv.ownBlock=some g0:=by rw [hv];rfl
  have l:∀ c',c'<5->∀ x∈K c',∀ g,x.1.ownBlock=some g->g≠g0:=fun c' hc' x hx g e a=>by
   have:=d c' hc' x hx g e;subst a;rw [o g i]at this;cases this
  refine⟨setW who g0 .cur,h.more (fun g e=>iJ _ _ (fun a=>by subst a;exact e (o g i))) (fun g e=>?_),⟨j,fun g a=>(by rw [i]at a;simp only [Option.some.injEq]at a;subst a;exact iY _ _ _),fun x hx g a e3=>?_,fun c' hc' hne x hx g a=>?_,k⟩,fun g e=>iJ _ _ (fun a=>e (by rw [a];exact i))⟩
  ·by_cases a:g=g0
   ·subst a;exact⟨hbb,(Array.getElem?_eq_some_iff.1 hh).1⟩
   ·rw [iJ _ _ a]at e;exact h.dom g e
  ·rw [iJ _ _ (l c (by omega) x hx g a),d c (by omega) x hx g a]at e3;cases e3
  ·rw [iJ _ _ (l c' hc' x hx g a)];exact d c' hc' x hx g a
def settleW(who:Nat->Role):Nat->Role:=fun g=>if (who g).k=5/\(who g).c=0 then .kept else who g
theorem uA{who:Nat->Role}{g:Nat}(h:who g= .cur):settleW who g= .kept:=by unfold settleW;rw [h];rfl
theorem kA{who:Nat->Role}{g:Nat}(h:who g≠ .cur):settleW who g=who g:=by
 unfold settleW;rw [if_neg];rintro⟨a,b⟩;apply h;revert a b
 generalize who g=r;obtain⟨k,c⟩:=r;rintro rfl rfl;rfl
theorem Hs.settled(h:Hs B w b who n f K M):Hs B w b (settleW who) n f K M/\∀ c',c'<5->∀ x∈K c',∀ g,x.1.ownBlock=some g->settleW who g= .kept:=by
 have a:∀ g,who g= .kept\/who g= .cur->settleW who g= .kept:=fun g e=>by
  rcases e with e | e
  ·rw [kA (by rw [e];simp)];exact e
  ·exact uA e
 refine⟨⟨h.blk,h.cnt,h.lst,h.mrk,fun c hc g e=>?_,fun c hc g e=>?_,?_,fun c hc x hx=>?_,fun g e=>?_⟩,fun c' hc' x hx g e=>a g ((h.kept c' hc' x hx).2 g e)⟩
 ·have:=h.wl c hc g e;rw [kA (by rw [this];simp),this]
 ·have:=h.wm c hc g e;rw [kA (by rw [this];simp),this]
 ·rw [kA (by rw [h.wb];simp),h.wb]
 ·obtain⟨k1,k2⟩:=h.kept c hc x hx;exact⟨k1.who (fun g e=>a g (Or.inl e)),fun g e=>Or.inl (a g (k2 g e))⟩
 ·by_cases d:who g= .cur
  ·exact h.dom g (by rw [d];simp)
  ·rw [kA d]at e;exact h.dom g e
theorem Fr.settled{w0:World}{who0:Nat->Role}{ex:Nat->Prop}(h:Fr w0 w who0 who ex):Fr w0 w who0 (settleW who) ex:=
 ⟨h.os,h.tape,h.output,h.size,fun g h1 h2 h3=>by
  obtain⟨a,b⟩:=h.oth g h1 h2 h3;exact⟨a,by rw [kA (by rw [b];simp)];exact b⟩⟩
end
end
section
open Go.RowKit
attribute [local go_sem] Go.World.cell?_alloc_some
def HsK(B:Nat)(w:World)(b:Nat)(who:Nat->Role)(n:Int)(f:Nat->Value)(K:Nat->List (Value × Int)):Prop:=
 Hs B w b who n f K (marksOf K)/\∀ c',c'<5->∀ x∈K c',∀ g,x.1.ownBlock=some g->who g= .kept
structure After(c:Nat)(w w':World)(who who':Nat->Role)(f f':Nat->Value)(K K':Nat->List (Value × Int))(ex:Nat->Prop):Prop where
 fr:Fr w w' who who' ex
 lent:∀ o,o<5->f' o=f o
 len:(K' c).length=(K c).length+4
 oth:∀ c',c'≠c->K' c'=K c'
structure WrG(B c:Nat)(w0 w:World)(b:Nat)(who:Nat->Role)(n:Int)(f0 f:Nat->Value)(K:Nat->List (Value × Int))(lv:Value)(len:Nat)(xs:List Value)(m:Int)(k:Nat):Prop where
 hs:HsK B w b who n f K
 row:w.ownsRow B (teC c) (elC m c).length lv len ((List.replicate k (elC m c)).flatten++xs.drop (k*(elC m c).length))
 fr:Fr w0 w who who (fun g=>lv.ownBlock=some g)
 lent:∀ o,o<5->f o=f0 o
structure KpG(B c:Nat)(w0 w:World)(b:Nat)(who0 who:Nat->Role)(n m:Int)(f0 f:Nat->Value)(K0 K:Nat->List (Value × Int))(lv:Value)(len k:Nat)(ex:Nat->Prop):Prop where
 hs:Hs B w b who n f K (marksOf K)
 cu:Cur B w who m c lv len K
 fr:Fr w0 w who0 who ex
 lent:∀ o,o<5->f o=f0 o
 len:(K c).length=(K0 c).length+k
 oth:∀ c',c'≠c->K c'=K0 c'
structure KpA(B c:Nat)(w0 w:World)(b:Nat)(who0 who:Nat->Role)(n m:Int)(f0 f:Nat->Value)(K0 K:Nat->List (Value × Int))(lv:Value)(len k:Nat)(ex:Nat->Prop):Prop where
 hs:Hs B w b who n f (setK K c (K c++[(lv,m)])) (marksOf K)
 cu:Cur B w who m c lv len (setK K c (K c++[(lv,m)]))
 fr:Fr w0 w who0 who ex
 lent:∀ o,o<5->f o=f0 o
 len:(K c).length=(K0 c).length+k
 oth:∀ c',c'≠c->K c'=K0 c'
theorem jJ{w:World}{B:Nat}{e:TypeId}{z g n a:Nat}{xs:List Value}{i:Nat}(h:w.ownsRow B e z (.slice (some ⟨g,0,none⟩) n a) n xs)(b:i<n*z):∃ u,w.cell? ⟨g,i,none⟩=some u:=by
 have h1:=h.1;exact⟨xs[i]'(by omega),by rw [h.cellAt i b,List.getElem?_eq_getElem]⟩
theorem jK{w:World}{B:Nat}{e:TypeId}{z g n a:Nat}{xs:List Value}{i:Nat}(h:w.ownsRow B e z (.slice (some ⟨g,0,none⟩) n a) n xs):w.frozen? ⟨g,i,none⟩=false:=by
 rcases h.2 with ⟨e,_⟩ | ⟨g',cap',cur,hv,_,hh,_⟩
 ·cases e
 ·simp only [Value.slice.injEq,Option.some.injEq,Addr.mk.injEq,true_and,and_true]at hv;obtain⟨rfl,rfl⟩:=hv;simp [World.frozen?,hh]
section
variable {B c : Nat} {w0 w w6 : World} {b : Nat} {who0 who : Nat -> Role} {n m : Int} {f0 f : Nat -> Value} {K0 K : Nat -> List (Value × Int)} {M : Nat -> List Int} {lv : Value} {len k : Nat} {ex : Nat -> Prop} {xs : List Value}
theorem HsK.setOther(h:HsK B w b who n f K){g o:Nat}{v:Value}(hg:who g= .other):HsK B (w.setCell ⟨g,o,none⟩ v) b who n f K:=
 ⟨h.1.same (by simp) (fun g' _ h2 _=>Below.heap_setCell _ _ _ _ (fun e=>by simp only at e;subst e;exact h2 hg)),h.2⟩
theorem HsK.grown{w':World}(h:HsK B w b who n f K)(hg:w.grownBy w' none):HsK B w' b who n f K:=⟨h.1.grown hg,h.2⟩
theorem HsK.like{w':World}(h:HsK B w b who n f K)(hl:Like w' w):HsK B w' b who n f K:=⟨h.1.like hl,h.2⟩
theorem oP(K:Nat->List (Value × Int))(c:Nat)(v:Value)(m:Int):marksOf (setK K c (K c++[(v,m)]))=setM (marksOf K) c (marksOf K c++[m]):=by
 funext k
 unfold marksOf setK setM;by_cases e:k=c
 ·subst e;simp
 ·simp [e]
theorem WrG.kp(h:WrG B c w0 w b who n f0 f K lv len xs m len)(hc:c<4)(o:xs.length=len*(elC m c).length)(k:len<=1000)(l:∀ g,lv.ownBlock=some g->who g= .other):
  ∃ who1,KpG B c w0 w b who who1 n m f0 f K K lv len 0 (fun g=>lv.ownBlock=some g):=by
 have d:=h.row;rw [List.drop_eq_nil_of_le (by rw [o];exact Nat.le_refl _),List.append_nil]at d;obtain⟨p,e,i,j⟩:=h.hs.1.begin hc h.hs.2 d k l;refine⟨p,e,i,⟨h.fr.os,h.fr.tape,h.fr.output,h.fr.size,fun g q1 q2 q3=>?_⟩,h.lent,rfl,fun _ _=>rfl⟩;obtain⟨a,b⟩:=h.fr.oth g q1 q2 q3;exact⟨a,by rw [j g q3];exact b⟩
theorem KpG.push(h:KpG B c w0 w b who0 who n m f0 f K0 K lv len k ex)(hc:c<4){o:Obj}{g6 c6:Nat}
  (j:w6.ownsRow B (tlC c) 1 (.slice (some ⟨g6,0,none⟩) ((K c).length+1) c6) ((K c).length+1) ((K c).map (·.1)++[lv]))
  (key:((f (6+2*c)).ownBlock=some g6/\(w.alloc o).grownBy w6 (some g6))\/(g6=w.heap.size+1/\(w.alloc o).grownBy w6 none)):
  HB w6 b f/\∃ who' f',KpA B c w0 (w6.setCell ⟨b,6+2*c,none⟩ (.slice (some ⟨g6,0,none⟩) ((K c).length+1) c6)) b who0 who' n m f0 f' K0 K lv len k ex/\f' (7+2*c)=f (7+2*c):=by
 obtain⟨hsz,l,hsr,h6r⟩:=jp key (fun g e=>(h.hs.dom g e).2) (r:= .lst c) (by simp) (h.hs.wl c (by omega));have i:HB w6 b f:=h.hs.blk.same (l b (by rw [h.hs.wb];simp) (by rw [h.hs.wb];simp)).1;obtain⟨a,d⟩:=h.hs.push h.cu hc j key;refine⟨i,_,_,⟨a,d,?_,fun o ho=>by rw [iN _ _ (by omega)];exact h.lent o ho,h.len,h.oth⟩,iN _ _ (by omega)⟩;refine(h.fr.trans (Fr.key (r:= .lst c) (fun g e=>by rw [h.hs.wl c (by omega) g e];simp) key)).trans (Fr.set (Or.inl ?_));have:=a.wb;rw [this];simp
theorem KpA.tell(h:KpA B c w0 w b who0 who n m f0 f K0 K lv len k ex)(hc:c<4){M1:Option Addr}{N M3:Nat}(j:f (7+2*c)= .slice M1 N M3)(l:(K c).length=N){o:Obj}{g6 c6:Nat}
  (q:w6.ownsRow B 3 1 (.slice (some ⟨g6,0,none⟩) (N+1) c6) (N+1) (ints ((K c).map (·.2))++[.int .i64 m]))
  (key:((Value.slice M1 N M3).ownBlock=some g6/\(w.alloc o).grownBy w6 (some g6))\/(g6=w.heap.size+1/\(w.alloc o).grownBy w6 none)):
  HB w6 b f/\∃ who' f',KpG B c w0 (w6.setCell ⟨b,7+2*c,none⟩ (.slice (some ⟨g6,0,none⟩) (N+1) c6)) b who0 who' n m f0 f' K0 (setK K c (K c++[(lv,m)])) lv len (k+1) ex:=by
 rw [<-j]at key;obtain⟨hsz,s,hsr,h6r⟩:=jp key (fun g e=>(h.hs.dom g e).2) (r:= .mrk c) (by simp) (h.hs.wm c (by omega));have p:HB w6 b f:=h.hs.blk.same (s b (by rw [h.hs.wb];simp) (by rw [h.hs.wb];simp)).1;have i:(marksOf K c).length=N:=by simp [marksOf,l]
 obtain⟨a,d⟩:=h.hs.tell h.cu hc (w6:=w6) (g6:=g6) (c6:=c6) (o:=o) (by rw [i];exact q) key;rw [i]at a d;refine⟨p,_,_,⟨by rw [oP];exact a,d,?_,fun o ho=>by rw [iN _ _ (by omega)];exact h.lent o ho,by rw [kN,List.length_append,h.len];simp;omega,fun c' hc'=>by rw [kO _ _ hc'];exact h.oth c' hc'⟩⟩;refine(h.fr.trans (Fr.key (r:= .mrk c) (fun g e=>by rw [h.hs.wm c (by omega) g e];simp) key)).trans (Fr.set (Or.inl ?_));have:=a.wb;rw [this];simp
theorem KpG.grow(h:KpG B c w0 w b who0 who n m f0 f K0 K lv len k ex)(hc:c<4)(i:len+1<=1000){o:Obj}{g6 c6:Nat}
  (j:w6.ownsRow B (teC c) (elC m c).length (.slice (some ⟨g6,0,none⟩) (len+1) c6) (len+1) ((List.replicate len (elC m c)).flatten++elC m c))
  (key:(lv.ownBlock=some g6/\(w.alloc o).grownBy w6 (some g6))\/(g6=w.heap.size+1/\(w.alloc o).grownBy w6 none)):
  ∃ who',KpG B c w0 w6 b who0 who' n m f0 f K0 K (.slice (some ⟨g6,0,none⟩) (len+1) c6) (len+1) k ex:=by
 obtain⟨a,d⟩:=h.hs.grow h.cu hc i j key;exact⟨_,a,d,h.fr.trans (Fr.key (fun g e=>by rw [h.cu.wc g e];simp) key),h.lent,h.len,h.oth⟩
theorem KpG.done(h:KpG B c w0 w b who0 who n m f0 f K0 K lv len 4 ex):∃ who' f' K',HsK B w b who' n f' K'/\After c w0 w who0 who' f0 f' K0 K' ex:=
 ⟨settleW who,f,K,⟨h.hs.settled.1,h.hs.settled.2⟩,⟨h.fr.settled,h.lent,h.len,h.oth⟩⟩
end
theorem oO{B:Nat}{w:World}{b:Nat}{who:Nat->Role}{n:Int}{f:Nat->Value}{K:Nat->List (Value × Int)}{M:Nat->List Int}(h:Hs B w b who n f K M)(h0:0<=n)(h1:n<=10000000000000):
  Calls Tryz.prog 55 #[pt b] w fun e w'=>e= .returned (.int .i64 (-77000000 - (n+1)))/\w'=w.setCell ⟨b,5,none⟩ (.int .i64 (n+1)):=by
 have c5:w.cell? ⟨b,5,none⟩=some (.int .i64 n):=by rw [h.blk.cell (by omega),h.cnt]
 have f5:=h.blk.frozen 5;have c6:(w.setCell ⟨b,5,none⟩ (.int .i64 (n+1))).cell? ⟨b,5,none⟩=some (.int .i64 (n+1)):=by rw [(h.blk.set (by omega) (.int .i64 (n+1))).cell (by omega),jM]
 have a:pt b= .pointer (some ⟨b,0,none⟩):=rfl;rw [a];clear h a;go_enter Tryz.func55,Tryz.ntmps55
 go_wp2_with fail
 go_ret;exact⟨rfl,rfl⟩
end
section
open Go.RowKit
def tR:Nat->TypeId
 | 0=>39
 | 1=>39
 | 2=>66
 | 3=>66
 | _=>35
structure Lr(B:Nat)(w:World)(who:Nat->Role)(f:Nat->Value)(E:Nat->List Value):Prop where
 r:∀ k,k<5->w.ownsRow B (tR k) 1 (f k) (E k).length (E k)
 wr:∀ k,k<5->∀ g,(f k).ownBlock=some g->who g= .lrow k
def setE(E:Nat->List Value)(k:Nat)(l:List Value):Nat->List Value:=fun j=>if j=k then l else E j
theorem AY(E:Nat->List Value)(k:Nat)(l:List Value):setE E k l k=l:=by simp [setE]
theorem rH(E:Nat->List Value){k j:Nat}(l:List Value)(h:j≠k):setE E k l j=E j:=by simp [setE,h]
section
variable {B : Nat} {w w6 w' : World} {b : Nat} {who who' : Nat -> Role} {n : Int} {f : Nat -> Value} {K : Nat -> List (Value × Int)} {M : Nat -> List Int} {E : Nat -> List Value}
theorem Lr.same(h:Lr B w who f E)(hb:∀ g k,who g= .lrow k->w'.heap[g]?=w.heap[g]?):Lr B w' who f E:=
 ⟨fun k hk=>iI (h.r k hk) (fun g e=>hb g k (h.wr k hk g e)),h.wr⟩
theorem Lr.grown(h:Lr B w who f E)(hg:w.grownBy w' none):Lr B w' who f E:=
 ⟨fun k hk=>iI (h.r k hk) (fun g e=>hg.block g (iP (h.r k hk) g e) (by simp)),h.wr⟩
theorem Lr.more(h:Lr B w who f E)(hw:∀ g,who g≠ .other->who' g=who g):Lr B w who' f E:=
 ⟨h.r,fun k hk g e=>by have:=h.wr k hk g e;rw [hw g (by rw [this];simp),this]⟩
theorem Lr.push(h:Lr B w who f E)(c:Hs B w b who n f K M){k:Nat}(p:k<5){v:Value}{o:Obj}{g6 c6:Nat}
  (q:w6.ownsRow B (tR k) 1 (.slice (some ⟨g6,0,none⟩) ((E k).length+1) c6) ((E k).length+1) (E k++[v]))
  (key:((f k).ownBlock=some g6/\(w.alloc o).grownBy w6 (some g6))\/(g6=w.heap.size+1/\(w.alloc o).grownBy w6 none)):
  HB w6 b f/\Hs B (w6.setCell ⟨b,k,none⟩ (.slice (some ⟨g6,0,none⟩) ((E k).length+1) c6)) b (setW who g6 (.lrow k)) n (setF f k (.slice (some ⟨g6,0,none⟩) ((E k).length+1) c6)) K M/\
  Lr B (w6.setCell ⟨b,k,none⟩ (.slice (some ⟨g6,0,none⟩) ((E k).length+1) c6)) (setW who g6 (.lrow k)) (setF f k (.slice (some ⟨g6,0,none⟩) ((E k).length+1) c6)) (setE E k (E k++[v]))/\
  Fr w (w6.setCell ⟨b,k,none⟩ (.slice (some ⟨g6,0,none⟩) ((E k).length+1) c6)) who (setW who g6 (.lrow k)) (fun _=>False)/\
  (∀ g,who g= .lent->(w6.setCell ⟨b,k,none⟩ (.slice (some ⟨g6,0,none⟩) ((E k).length+1) c6)).heap[g]?=w.heap[g]?/\setW who g6 (.lrow k) g= .lent)/\(∀ g,who g≠ .other->setW who g6 (.lrow k) g=who g):=by
 obtain⟨F,l,hsr,u⟩:=jp key (fun g e=>(c.dom g e).2) (r:= .lrow k) (by simp) (h.wr k p);have z:g6≠b:=(l b (by rw [c.wb];simp) (by rw [c.wb];simp)).2;have A:HB w6 b f:=c.blk.same (l b (by rw [c.wb];simp) (by rw [c.wb];simp)).1;have D:Hs B w6 b who n f K M:=c.same F (fun g _ h2 h3=>(l g h2 (fun e=>by rw [e]at h3;cases h3)).1);have m:∀ g,who g≠ .other->setW who g6 (.lrow k) g=who g:=fun g h1=>by
  by_cases e:g=g6
  ·subst e;rw [iY];exact(u (c.dom g h1).2).symm
  ·exact iJ _ _ e
 have t:Hs B w6 b (setW who g6 (.lrow k)) n f K M:=D.more m (fun g e=>by
  by_cases d:g=g6
  ·subst d;exact⟨iA q g rfl,iP q g rfl⟩
  ·rw [iJ _ _ d]at e;have:=c.dom g e;exact⟨this.1,by omega⟩)
 have C:Fr w w6 who (setW who g6 (.lrow k)) (fun _=>False):=Fr.key (fun g e=>by rw [h.wr k p g e];simp) key;generalize y:Value.slice (some ⟨g6,0,none⟩) ((E k).length+1) c6=V at*;have s:V.ownBlock=some g6:=by rw [<-y];rfl
 have G:setW who g6 (.lrow k) b= .hands:=t.wb;refine⟨A,t.setLent p V,⟨fun j hj=>?_,fun j hj g e=>?_⟩,C.trans (Fr.set (Or.inl (by rw [G];simp))),fun g e=>⟨?_,by rw [m g (by rw [e];simp)];exact e⟩,m⟩
 ·by_cases e:j=k
  ·subst e;rw [jM,AY];have:=ownsRow_setCell_other (a:=⟨b,j,none⟩) q (show V.ownBlock≠some b by rw [s];simpa using z) V;simpa using this
  ·rw [iN _ _ e,rH _ _ e];refine iI (h.r j hj) (fun g d=>?_);have i:=h.wr j hj g d;rw [Below.heap_setCell _ _ _ _ (fun e3=>by simp only at e3;subst e3;rw [c.wb]at i;cases i)];exact(l g (by rw [i];simp) (by rw [i];simpa using e)).1
 ·by_cases d:j=k
  ·subst d;rw [jM,s]at e;simp only [Option.some.injEq]at e;subst e;exact iY _ _ _
  ·rw [iN _ _ d]at e;have i:=h.wr j hj g e;rw [m g (by rw [i];simp),i]
 ·rw [Below.heap_setCell _ _ _ _ (fun e3=>by simp only at e3;subst e3;rw [c.wb]at e;cases e)];exact(l g (by rw [e];simp) (by rw [e];simp)).1
end
def sl2(g n:Nat):Value:= .slice (some ⟨g,0,none⟩) (n+2) (n+2)
def insInk:List Value:=[.int .i64 (-77000000),.int .i64 0,.int .i64 0,.int .i64 0]
def insL(i:Ins):List Value:=[.int .i64 i.op,.int .i64 i.a,.int .i64 i.b,.int .i64 i.n]
def lentCode(c:List Ins):Array Value:=(c.flatMap insL++(insInk++insInk)).toArray
def slC(x:Nat × List Ins × Value):Value:= .slice (some ⟨x.1,0,none⟩) x.2.1.length (x.2.1.length+2)
def lentRows(l:List (Nat × List Ins × Value)):Array Value:=(l.map slC++[Value.slice none 0 0,Value.slice none 0 0]).toArray
def valOther(who:Nat->Role)(v:Value):Prop:=∀ g o l c,v= .slice (some ⟨g,o,none⟩) l c->0<l->who g= .other
structure Le(w:World)(who:Nat->Role)(LI:List (Nat × List Int × Value))(LC:List (Nat × List Ins × Value))(LR:List (Nat × Nat))(tail:Nat):Prop where
 li:∀ x∈LI,w.heap[x.1]?=some (.cells (lentRow x.2.1) 3 (0,0))/\who x.1= .lent/\IntsAt w.heap.size w x.2.2 x.2.1/\valOther who x.2.2/\x.2.1.length<=17592186043904
 lc:∀ x∈LC,w.heap[x.1]?=some (.cells (lentCode x.2.1) 65 (0,0))/\who x.1= .lent/\CodeAt w x.2.2 x.2.1/\valOther who x.2.2/\x.2.1.length<=4398046510976
 lr:∀ j (hj:j<LR.length),w.heap[LR[j].1]?=some (.cells (lentRows ((LC.drop ((LR.take j).map (·.2)).sum).take LR[j].2)) 66 (0,0))/\who LR[j].1= .lent/\LR[j].2<=5864062014634
 sum:(LR.map (·.2)).sum+tail=LC.length
 nd:(LI.map (·.1)++(LC.map (·.1)++LR.map (·.1))).Nodup
theorem valOther.mono{who who':Nat->Role}{v:Value}(h:valOther who v)(hw:∀ g,who g= .other->∀ o l c,v= .slice (some ⟨g,o,none⟩) l c->0<l->who' g= .other):valOther who' v:=fun g o l c e hl=>hw g (h g o l c e hl) o l c e hl
theorem oM{w w':World}{who:Nat->Role}{v:Value}{l:List Int}(h:IntsAt w.heap.size w v l)(j:valOther who v)(hs:w.heap.size<=w'.heap.size)(i:∀ g,g<w.heap.size->who g= .other->w'.heap[g]?=w.heap[g]?):IntsAt w'.heap.size w' v l:=by
 obtain⟨a,b,rfl,e,f⟩:=h;refine⟨a,b,rfl,e,fun k hk=>?_⟩;obtain⟨g,o,rfl,c,d⟩:=f k hk;exact⟨g,o,rfl,by omega,by rw [World.cell?_of_block (i g c (j g o _ _ rfl (by omega)))];exact d⟩
theorem mD{w w':World}{who:Nat->Role}{v:Value}{c:List Ins}(h:CodeAt w v c)(n:valOther who v)(m:∀ g,g<w.heap.size->who g= .other->w'.heap[g]?=w.heap[g]?):CodeAt w' v c:=by
 obtain⟨d,e,rfl,l⟩:=h;refine⟨d,e,rfl,fun k hk=>?_⟩;obtain⟨g,o,rfl,b,f,i,j⟩:=l k hk;have a:w'.heap[g]?=w.heap[g]?:=m g (World.block_lt_of_cell? w _ b) (n g o _ _ rfl (by omega));exact⟨g,o,rfl,by rw [World.cell?_of_block a];exact b,by rw [World.cell?_of_block a];exact f,by rw [World.cell?_of_block a];exact i,by rw [World.cell?_of_block a];exact j⟩
section
variable {w w' : World} {who who' : Nat -> Role} {LI : List (Nat × List Int × Value)} {LC : List (Nat × List Ins × Value)} {LR : List (Nat × Nat)} {tail : Nat}
theorem Le.keep(h:Le w who LI LC LR tail)(m:Fr w w' who who' (fun _=>False))(i:∀ g,who g= .lent->w'.heap[g]?=w.heap[g]?/\who' g= .lent):Le w' who' LI LC LR tail:=by
 have v:∀ g,g<w.heap.size->who g= .other->w'.heap[g]?=w.heap[g]?:=fun g u k=>(m.oth g u k (fun e=>e)).1
 refine⟨fun x hx=>?_,fun x hx=>?_,fun j hj=>?_,h.sum,h.nd⟩
 ·obtain⟨a,b,c,d,e⟩:=h.li x hx;refine⟨by rw [(i _ b).1];exact a,(i _ b).2,oM c d m.size v,?_,e⟩;obtain⟨y,z,r,u,k⟩:=c;intro g o l n f t;have s:=d g o l n f t;rw [r]at f;simp only [Value.slice.injEq]at f;obtain⟨A,B,p,q,_⟩:=k 0 (by omega);rw [p]at f;simp only [Option.some.injEq,Addr.mk.injEq,and_true]at f;obtain⟨⟨rfl,_⟩,_⟩:=f;exact(m.oth _ q s (fun e=>e)).2
 ·obtain⟨a,b,c,d,e⟩:=h.lc x hx;refine⟨by rw [(i _ b).1];exact a,(i _ b).2,mD c d v,?_,e⟩;obtain⟨y,z,r,k⟩:=c;intro g o l n f t;have s:=d g o l n f t;rw [r]at f;simp only [Value.slice.injEq]at f;obtain⟨A,B,p,q,_⟩:=k 0 (by omega);rw [p]at f;simp only [Option.some.injEq,Addr.mk.injEq,and_true]at f;obtain⟨⟨rfl,_⟩,_⟩:=f;exact(m.oth _ (World.block_lt_of_cell? w _ q) s (fun e=>e)).2
 ·obtain⟨a,b,c⟩:=h.lr j hj;exact⟨by rw [(i _ b).1];exact a,(i _ b).2,c⟩
end
def EL(LI:List (Nat × List Int × Value))(LC:List (Nat × List Ins × Value))(LR:List (Nat × Nat)):Nat->List Value
 | 0=>LI.map fun x=>sl2 x.1 x.2.1.length
 | 1=>LI.map fun x=>x.2.2
 | 2=>LC.map fun x=>sl2 x.1 x.2.1.length
 | 3=>LC.map fun x=>x.2.2
 | 4=>LR.map fun x=>sl2 x.1 x.2
 | _=>[]
structure Lx(B:Nat)(w:World)(b:Nat)(who:Nat->Role)(n:Int)(f:Nat->Value)(K:Nat->List (Value × Int))(E:Nat->List Value)(LI:List (Nat × List Int × Value))(LC:List (Nat × List Ins × Value))(LR:List (Nat × Nat))(tail:Nat):Prop where
 hs:HsK B w b who n f K
 lr:Lr B w who f E
 le:Le w who LI LC LR tail
section
variable {B : Nat} {w w6 w' : World} {b : Nat} {who who' : Nat -> Role} {n : Int} {f : Nat -> Value} {K : Nat -> List (Value × Int)} {E : Nat -> List Value} {LI : List (Nat × List Int × Value)} {LC : List (Nat × List Ins × Value)} {LR : List (Nat × Nat)} {tail : Nat}
theorem Lx.cell(h:Lx B w b who n f K E LI LC LR tail){o:Nat}(ho:o<16):w.cell? ⟨b,o,none⟩=some (f o):=h.hs.1.blk.cell ho
theorem Lx.low(h:Lx B w b who n f K E LI LC LR tail):B<=b/\b<w.heap.size:=h.hs.1.dom b (by rw [h.hs.1.wb];simp)
theorem Le.lt(h:Le w who LI LC LR tail):∀ g∈LI.map (·.1)++(LC.map (·.1)++LR.map (·.1)),g<w.heap.size/\who g= .lent:=by
 intro g c;rcases List.mem_append.1 c with c | c
 ·obtain⟨x,d,rfl⟩:=List.mem_map.1 c;obtain⟨a,b,_⟩:=h.li x d;exact⟨(Array.getElem?_eq_some_iff.1 a).1,b⟩
 ·rcases List.mem_append.1 c with c | c
  ·obtain⟨x,d,rfl⟩:=List.mem_map.1 c;obtain⟨a,b,_⟩:=h.lc x d;exact⟨(Array.getElem?_eq_some_iff.1 a).1,b⟩
  ·obtain⟨x,d,rfl⟩:=List.mem_map.1 c;obtain⟨j,e,rfl⟩:=List.getElem_of_mem d;obtain⟨a,b,_⟩:=h.lr j e;exact⟨(Array.getElem?_eq_some_iff.1 a).1,b⟩
theorem Lx.grown(h:Lx B w b who n f K E LI LC LR tail)(hg:w.grownBy w' none):Lx B w' b who n f K E LI LC LR tail:=
 ⟨h.hs.grown hg,h.lr.grown hg,h.le.keep (Fr.grown hg) (fun g e=>⟨hg.block g (h.hs.1.dom g (by rw [e];simp)).2 (by simp),e⟩)⟩
theorem Lx.new(h:Lx B w b who n f K E LI LC LR tail)(d:w.grownBy w' none){g:Nat}(k:w.heap.size<=g)(l:g<w'.heap.size):Lx B w' b (setW who g .lent) n f K E LI LC LR tail/\Fr w w' who (setW who g .lent) (fun _=>False):=by
 have i:∀ g',who g'≠ .other->setW who g .lent g'=who g':=fun g' e=>iJ _ _ (fun a=>by subst a;have:=(h.hs.1.dom g' e).2;omega)
 have j:=h.grown d;have hb:=h.low;refine⟨⟨⟨j.hs.1.more i (fun g' e=>?_),fun c hc x hx g' e=>?_⟩,j.lr.more i,?_⟩,Fr.setW (Fr.grown d) (Or.inl k)⟩
 ·by_cases a:g'=g
  ·subst a;exact⟨by omega,l⟩
  ·rw [iJ _ _ a]at e;exact j.hs.1.dom g' e
 ·have:=h.hs.2 c hc x hx g' e;rw [i g' (by rw [this];simp),this]
 ·exact h.le.keep (Fr.setW (Fr.grown d) (Or.inl k)) (fun g' e=>⟨d.block g' (h.hs.1.dom g' (by rw [e];simp)).2 (by simp),by rw [i g' (by rw [e];simp)];exact e⟩)
theorem Lx.push(h:Lx B w b who n f K E LI LC LR tail){k:Nat}(q:k<5){v:Value}{o:Obj}{g6 c6:Nat}
  (r:w6.ownsRow B (tR k) 1 (.slice (some ⟨g6,0,none⟩) ((E k).length+1) c6) ((E k).length+1) (E k++[v]))
  (key:((f k).ownBlock=some g6/\(w.alloc o).grownBy w6 (some g6))\/(g6=w.heap.size+1/\(w.alloc o).grownBy w6 none)):
  HB w6 b f/\∃ who' f',Lx B (w6.setCell ⟨b,k,none⟩ (.slice (some ⟨g6,0,none⟩) ((E k).length+1) c6)) b who' n f' K (setE E k (E k++[v])) LI LC LR tail/\
   Fr w (w6.setCell ⟨b,k,none⟩ (.slice (some ⟨g6,0,none⟩) ((E k).length+1) c6)) who who' (fun _=>False)/\(∀ j,j≠k->f' j=f j)/\(∀ g,who g= .lent->(w6.setCell ⟨b,k,none⟩ (.slice (some ⟨g6,0,none⟩) ((E k).length+1) c6)).heap[g]?=w.heap[g]?/\who' g= .lent):=by
 obtain⟨i,l,m,a,d,p⟩:=h.lr.push h.hs.1 q r key;refine⟨i,_,_,⟨⟨l,fun c hc x hx g e=>?_⟩,m,h.le.keep a d⟩,a,fun j hj=>iN _ _ hj,d⟩;have:=h.hs.2 c hc x hx g e;rw [p g (by rw [this];simp),this]
theorem Le.addInts(h:Le w who LI LC LR tail){g:Nat}{l:List Int}{d:Value}(m:w.heap[g]?=some (.cells (lentRow l) 3 (0,0)))(p:who g= .lent)(k:IntsAt w.heap.size w d l)(o:valOther who d)(n:l.length<=17592186043904)
  (b:g∉LI.map (·.1)++(LC.map (·.1)++LR.map (·.1))):Le w who (LI++[(g,l,d)]) LC LR tail:=by
 refine⟨fun x a=>?_,h.lc,h.lr,h.sum,?_⟩
 ·rcases List.mem_append.1 a with a | a
  ·exact h.li x a
  ·simp at a;subst a;exact⟨m,p,k,o,n⟩
 ·have:=h.nd;simp only [List.map_append,List.map_cons,List.map_nil,List.append_assoc,List.singleton_append];rw [List.nodup_append]at this ⊢;obtain⟨f,i,j⟩:=this;simp only [List.mem_append,not_or]at b;refine⟨f,?_,?_⟩
  ·rw [List.nodup_cons];exact⟨by simp only [List.mem_append,not_or];exact⟨b.2.1,b.2.2⟩,i⟩
  ·intro x a y c;rcases List.mem_cons.1 c with rfl | c
   ·intro e;subst e;exact b.1 a
   ·exact j x a y c
theorem zH(b:List (Nat × List Int × Value))(a:List (Nat × List Ins × Value))(c:List (Nat × Nat))(g:Nat)(l:List Int)(d:Value):
  setE (setE (EL b a c) 0 (EL b a c 0++[sl2 g l.length])) 1 (setE (EL b a c) 0 (EL b a c 0++[sl2 g l.length]) 1++[d])=EL (b++[(g,l,d)]) a c:=by
 funext k
 match k with
 | 0=>simp [setE,EL]
 | 1=>simp [setE,EL]
 | 2=>simp [setE,EL]
 | 3=>simp [setE,EL]
 | 4=>simp [setE,EL]
 | k+5=>simp [setE,EL]
end
end
section
open Go.RowKit
attribute [local go_sem] Go.World.cell?_alloc_some
theorem kc{w w':World}{who d:Nat->Role}{v:Value}{l:List Int}(h:IntsAt w.heap.size w v l)(c:valOther who v)(a:Fr w w' who d (fun _=>False)):IntsAt w'.heap.size w' v l/\valOther d v:=by
 refine⟨oM h c a.size (fun g h1 h2=>(a.oth g h1 h2 (fun e=>e)).1),c.mono (fun g e o l' c' e2 hl'=>?_)⟩;obtain⟨ao',cap',f,_,i⟩:=h;rw [f]at e2;simp only [Value.slice.injEq]at e2;obtain⟨g',o',b,e6,_⟩:=i 0 (by omega);rw [e2.1]at b;simp only [Option.some.injEq,Addr.mk.injEq,and_true]at b;exact(a.oth g (by omega) e (fun e=>e)).2
theorem jP(B:Nat)(w:World)(b:Nat)(who:Nat->Role)(n:Int)(f:Nat->Value)(K:Nat->List (Value × Int))(c:List (Nat × List Int × Value))(d:List (Nat × List Ins × Value))(i:List (Nat × Nat))(tail:Nat)(C:Value)(l:List Int)
  (h:Lx B w b who n f K (EL c d i) c d i tail) (Y:IntsAt w.heap.size w C l) (aW:valOther who C) (bA:l.length<=17592186043904) (aL:c.length<=1000):
  Calls Tryz.prog 20 #[pt b,C] w fun e w'=>∃ g who' f',e= .returned (.slice (some ⟨g,0,none⟩) l.length (l.length+2))/\Lx B w' b who' n f' K (EL (c++[(g,l,C)]) d i) (c++[(g,l,C)]) d i tail/\Fr w w' who who' (fun _=>False):=by
 obtain⟨i0,aP,bK,a1,bL⟩:=info_parts ji;obtain⟨i1,aQ,aY,aZ,a0⟩:=info_parts p9;have T:=ij h;have H:=ij Y;have HV:=ij aW;have hb:=h.low;obtain⟨m,p,rfl⟩:=Y.form;have aV:pt b= .pointer (some ⟨b,0,none⟩):=rfl;rw [aV];clear h Y aV aW;have q0:(l.length:Int)<=17592186043904:=by omega
 have q1:(0:Int)<=(l.length:Int):=by omega
 have bJ:(Tryz.prog.info? 3).map (·.size)=some 1:=by rw [aP];simp [a1]
 go_enter Tryz.func20,Tryz.ntmps20
 go_upto_region 3 with (at_make;refine wpList_make_full _ rfl _ _ _ rfl w.heap.size 3 i0 _ 1 Tryz.underlying39 aP bK a1 .i64 .i64 _ _ (l.length+2) rfl rfl (by simp) (by simp) (by rw [bL];omega) (by unfold maxLen;omega) (by simp) ?_;intro G aU P)
 have bF:∃ cur,G.heap[w.heap.size]?=some (.cells cur 3 (0,0))/\cur.size=l.length+2:=by
  rcases aU.2 with ⟨e,_⟩ | ⟨g',be,cur,hv,_,hh,_,_,hcs,_⟩
  ·cases e
  ·simp only [Value.slice.injEq,Option.some.injEq,Addr.mk.injEq,true_and,and_true]at hv;obtain⟨rfl,rfl⟩:=hv;exact⟨cur,hh,by simpa using hcs⟩
 obtain⟨cur,aM,bv⟩:=bF;have s:=ij P;have a8:Hid (IntsAt G.heap.size G (.slice m l.length p) l):=(H.out.pres (ip P)).mono P.size;have a5:=ij aM;clear aU P aM;obtain⟨q,bG,x,v⟩:=pI G 39 3 3 Tryz.underlying39 bJ w.heap.size (l.length+2) (l.length+2) (.slice m l.length p) G.heap.size l a8.out cur 3 a5.out (by omega) (by omega);go_upto_region 4 with fail
 clear bG;have a7:Hid (w.grownBy q none):=⟨v.os.trans s.out.os,v.tape.trans s.out.tape,v.output.trans s.out.output,Nat.le_trans s.out.size v.size,fun k hk _=>by
  rw [v.block k (Nat.lt_of_lt_of_le hk s.out.size) (by simp;omega)];exact s.out.block k hk (by simp)⟩
 have bH:w.heap.size<q.heap.size:=(Array.getElem?_eq_some_iff.1 x).1;obtain⟨R,O⟩:∃ R:Array Value,R=(ints l++cur.toList.drop l.length).toArray:=⟨_,rfl⟩;rw [<-O]at x;have hRs:R.size=l.length+2:=by rw [O];simp [jc];omega
 have bb:Hid ((R.setIfInBounds l.length ink).setIfInBounds (l.length+1) ink=lentRow l):=by unfold Hid;rw [O];exact AR l cur bv
 have Q:=heap_setCell_same q w.heap.size l.length R 3 ink x;have ag:=heap_setCell_same _ w.heap.size (l.length+1) _ 3 ink Q;rw [bb.out]at ag;have X:∃ u,q.cell? ⟨w.heap.size,l.length,none⟩=some u:=by
  refine⟨R[l.length]'(by omega),?_⟩;simp [World.cell?,x]
 have I:∃ u,(q.setCell ⟨w.heap.size,l.length,none⟩ ink).cell? ⟨w.heap.size,l.length+1,none⟩=some u:=by
  refine⟨(R.setIfInBounds l.length ink)[l.length+1]'(by simp;omega),?_⟩;simp only [World.cell?,Q];exact Array.getElem?_eq_getElem _
 obtain⟨u0,X⟩:=X;obtain⟨u1,I⟩:=I;have f0:q.frozen? ⟨w.heap.size,l.length,none⟩=false:=by simp [World.frozen?,x]
 have f1:(q.setCell ⟨w.heap.size,l.length,none⟩ ink).frozen? ⟨w.heap.size,l.length+1,none⟩=false:=by simp [World.frozen?,Q]
 obtain⟨a,y⟩:∃ a,a=(q.setCell ⟨w.heap.size,l.length,none⟩ ink).setCell ⟨w.heap.size,l.length+1,none⟩ ink:=⟨_,rfl⟩;have N:w.grownBy a none:=by rw [y];exact iD (iD a7.out (Nat.le_refl _)) (Nat.le_refl _)
 have ba:Hid (a.heap[w.heap.size]?=some (.cells (lentRow l) 3 (0,0))):=by rw [y];exact ag
 have bI:w.heap.size<a.heap.size:=by rw [y];simpa using bH
 have bw:ink= .int .i64 (-77000000):=rfl;rw [bw]at y I f1;have aG:=ij y;obtain⟨aX,aN⟩:=T.out.new N (Nat.le_refl _) bI;have a9:Hid (w.heap.size∉c.map (·.1)++(d.map (·.1)++i.map (·.1))):=fun e=>by have:=(T.out.le.lt _ e).1;omega
 have aA:Hid (IntsAt a.heap.size a (.slice m l.length p) l):=(H.out.pres (ip N)).mono N.size;have aF:Hid (valOther (setW who w.heap.size .lent) (.slice m l.length p)):=by
  refine HV.out.mono (fun g e o l' c' e2 hl'=>?_);rw [iJ]
  ·exact e
  ·intro e3;subst e3;obtain⟨ao',be,e4,_,h5⟩:=H.out;simp only [Value.slice.injEq]at e2 e4;obtain⟨g',o',e5,e6,_⟩:=h5 0 (by omega);rw [<-e4.1,e2.1]at e5;simp only [Option.some.injEq,Addr.mk.injEq,and_true]at e5;omega
 have A:=ij aX;have ax:=ij aN;have HW:Hid (setW who w.heap.size .lent w.heap.size= .lent):=iY _ _ _;have a6:=ij (zH c d i w.heap.size l (.slice m l.length p));have hE0:(EL c d i 0).length<=1000:=by simp only [EL,List.length_map];exact aL
 have bo:(EL c d i 1).length<=1000:=by simp only [EL,List.length_map];exact aL
 clear x v O Q ag y aX aN N H HV T;generalize setW who w.heap.size .lent=who5 at*;generalize EL c d i=E at*;generalize aO:w.heap.size=g0 at*;have HG0:=ij aO;clear aO;go_upto_region 6 with fail
 rw [<-aG.out];clear aG X I f0 f1;have F:a.ownsRow B 39 1 (f 0) (E 0).length (E 0):=A.out.lr.r 0 (by omega);have c0:a.cell? ⟨b,0,none⟩=some (f 0):=A.out.cell (by omega);obtain⟨o1,o2,o3,L⟩:=iw F;rw [L]at F c0;have bE:=iB F;subst bE;have V:Hid (∀ {o:Obj} {g6 c6:Nat} {w6:World},w6.ownsRow B 39 1 (.slice (some ⟨g6,0,none⟩) ((E 0).length+1) c6) ((E 0).length+1) (E 0++[sl2 g0 l.length])->
   (((Value.slice o1 (E 0).length o3).ownBlock=some g6/\(a.alloc o).grownBy w6 (some g6))\/(g6=a.heap.size+1/\(a.alloc o).grownBy w6 none))->
   HB w6 b f/\∃ who' f',Lx B (w6.setCell ⟨b,0,none⟩ (.slice (some ⟨g6,0,none⟩) ((E 0).length+1) c6)) b who' n f' K (setE E 0 (E 0++[sl2 g0 l.length])) c d i tail/\
   Fr a (w6.setCell ⟨b,0,none⟩ (.slice (some ⟨g6,0,none⟩) ((E 0).length+1) c6)) who5 who' (fun _=>False)/\(∀ j,j≠0->f' j=f j)/\(∀ g,who5 g= .lent->(w6.setCell ⟨b,0,none⟩ (.slice (some ⟨g6,0,none⟩) ((E 0).length+1) c6)).heap[g]?=a.heap[g]?/\who' g= .lent)):=by
  intro o g6 c6 w6 ad key;rw [<-L]at key;exact A.out.push (by omega) ad key
 have hbase:B<=a.heap.size:=by have:=A.out.low;omega
 have aD:=ij F;have aw:=ij L;have bn:(E 0).length+1<=maxLen:=by unfold maxLen;omega
 have aK:(E 1).length+1<=maxLen:=by unfold maxLen;omega
 clear F L;have au:Hid (setE E 0 (E 0++[sl2 g0 l.length]) 1=E 1):=rH _ _ (by omega);generalize br:(E 0).length=N0 at*;generalize bq:E 0=L0 at*;clear br bq;go_upto_region 7 with (at_builtin;go_must (refine iE rfl _ _ _ rfl B 39 i1 _ 1 24 Tryz.underlying23 aQ aY aZ a0 rfl (by omega) (.slice o1 N0 o3) N0 L0 rfl (iG aD.out) ⟨a.heap.size,0,none⟩ 1 1 [sl2 g0 l.length] rfl rfl (World.news_of_block (cs:= #[.slice (some ⟨g0,0,none⟩) (l.length+2) (l.length+2)]) (t:=39) (fr:=(0,0)) (heap_alloc_new a _)) (by simp [sl2,Value.oneCell']) (by omega) bn (by omega) (by simp;omega) (a.heap.size+1) (by simp) ?_);intro g8 bg w8 af ai bC;have aa:=(V.out af ai).1;have p6:w8.cell? ⟨b,0,none⟩=some (.slice o1 N0 o3):=(by rw [aa.cell (by omega),aw.out]);have p7:=aa.frozen 0)
 obtain⟨_,ar,M,z,ac,bz,aT⟩:=V.out af ai;generalize w8.setCell ⟨b,0,none⟩ (.slice (some ⟨g8,0,none⟩) (N0+1) bg)=w9 at*;generalize setE E 0 (L0++[sl2 g0 l.length])=E9 at*;rw [<-au.out]at bo aK;have D:w9.ownsRow B 39 1 (M 1) (E9 1).length (E9 1):=z.lr.r 1 (by omega);have c1:w9.cell? ⟨b,1,none⟩=some (M 1):=z.cell (by omega);obtain⟨m1,m2,m3,J⟩:=iw D;rw [J]at D c1;have bD:=iB D;subst bD;have W:Hid (∀ {o:Obj} {g6 c6:Nat} {w6:World},w6.ownsRow B 39 1 (.slice (some ⟨g6,0,none⟩) ((E9 1).length+1) c6) ((E9 1).length+1) (E9 1++[.slice m l.length p])->
   (((Value.slice m1 (E9 1).length m3).ownBlock=some g6/\(w9.alloc o).grownBy w6 (some g6))\/(g6=w9.heap.size+1/\(w9.alloc o).grownBy w6 none))->
   HB w6 b M/\∃ who' f',Lx B (w6.setCell ⟨b,1,none⟩ (.slice (some ⟨g6,0,none⟩) ((E9 1).length+1) c6)) b who' n f' K (setE E9 1 (E9 1++[.slice m l.length p])) c d i tail/\
   Fr w9 (w6.setCell ⟨b,1,none⟩ (.slice (some ⟨g6,0,none⟩) ((E9 1).length+1) c6)) ar who' (fun _=>False)/\(∀ j,j≠1->f' j=M j)/\(∀ g,ar g= .lent->(w6.setCell ⟨b,1,none⟩ (.slice (some ⟨g6,0,none⟩) ((E9 1).length+1) c6)).heap[g]?=w9.heap[g]?/\who' g= .lent)):=by
  intro o g6 c6 w6 ad key;rw [<-J]at key;exact z.push (by omega) ad key
 have hbase9:B<=w9.heap.size:=by have:=z.low;omega
 have aC:=ij D;have av:=ij J;have bd:=ij z;have ay:=ij (ax.out.trans ac);have aB:=ij (aT g0 HW.out);have U:Hid (IntsAt w9.heap.size w9 (.slice m l.length p) l/\valOther ar (.slice m l.length p)):=kc aA.out aF.out ac;clear D J af ai aa p6 p7 bC c0 z ac bz aT V aD aw A ax aA aF au;generalize bt:(E9 1).length=N1 at*;generalize hL1:E9 1=L1 at*;clear bt;go_upto_region 8 with (at_builtin;go_must (refine iE rfl _ _ _ rfl B 39 i1 _ 1 24 Tryz.underlying23 aQ aY aZ a0 rfl (by omega) (.slice m1 N1 m3) N1 L1 rfl (iG aC.out) ⟨w9.heap.size,0,none⟩ 1 1 [.slice m l.length p] rfl rfl (World.news_of_block (cs:= #[.slice m l.length p]) (t:=39) (fr:=(0,0)) (heap_alloc_new w9 _)) (by simp [Value.oneCell']) (by omega) aK (by omega) (by simp;omega) (w9.heap.size+1) (by simp) ?_);intro bk bf a3 ae ah bB;have Z:=(W.out ae ah).1;have p6:a3.cell? ⟨b,1,none⟩=some (.slice m1 N1 m3):=(by rw [Z.cell (by omega),av.out]);have p7:=Z.frozen 1)
 obtain⟨_,aq,aJ,S,ab,bx,aS⟩:=W.out ae ah;generalize a3.setCell ⟨b,1,none⟩ (.slice (some ⟨bk,0,none⟩) (N1+1) bf)=w11 at*;have az:Hid (Lx B w11 b aq n aJ K (EL (c++[(g0,l,.slice m l.length p)]) d i) (c++[(g0,l,.slice m l.length p)]) d i tail/\Fr w w11 who aq (fun _=>False)):=by
  obtain⟨bp,bu⟩:=kc U.out.1 U.out.2 ab;have hl:=aS g0 aB.out.2;refine⟨⟨S.hs,?_,S.le.addInts (by rw [hl.1,aB.out.1];exact ba.out) hl.2 bp bu bA a9.out⟩,ay.out.trans ab⟩;have:=S.lr;rw [a6.out]at this;exact this
 clear ae ah Z p6 p7 bB c1 S ab bx aS W aC av bd ay U;have q2:(l.length:Int)<=(l.length:Int)+2:=by omega
 go_wp2_with fail
 go_ret;exact⟨g0,aq,aJ,rfl,az.out.1,az.out.2⟩
end
section
open Go.RowKit
section
variable {P : Program}
theorem pf(w:World)(h y ty c:TypeId)(g b m:Nat)(a:Addr)(d x f:Nat)(cur:Array Value)(t:TypeId)(cs:List Value)
  (u:P.underlying h=some (.slice c)) (k:(P.info? c).map (·.size)=some f)
  (o:w.heap[g]?=some (.cells cur t (0,0))) (r:cs.length=Nat.min d b*f)
  (s:∀ j v,cs[j]?=some v->w.cell? (a.add j)=some v) (hfit:cs.length<=cur.size) (n:∀ v∈cs,v.oneCell'=true):
  (Builtin.copy_ #[h,y] ty #[.slice (some ⟨g,0,none⟩) b m,.slice (some a) d x]).run P w=
   .ok (goInt (Nat.min d b)) (w.setRow g (cs++cur.toList.drop cs.length).toArray):=by
 have q:=run_loadCells_list (P:=P) w a cs s;have l:=run_storeCells_at P g 0 t cs 0 cur w o (by omega) n;have e:(cur.toList.take (0+0)++cs++cur.toList.drop (0+0+cs.length))=cs++cur.toList.drop cs.length:=by simp
 rw [e]at l;cases hq:P.info? c with
 | none=>simp [hq]at k
 | some i=>
  have p:i.size=f:=by simpa [hq]using k
  simp [Builtin.copy_,run_underlying u,Builtin.lenOf,Builtin.firstCells,sizeOf,typeInfo,hq,p,<-r,q,l]
theorem nV{w:World}{o:Oper}{a:Act}{K:Act->World->Prop}{Q:Exit->Act->World->Prop}(s x:Operand)(t:TypeId)
  (V:o.op= .call { callee:= .builtin .append,args:= #[s,x],argTypes:= #[t,t]})
  (base:Nat) (e:TypeId) (i:TypeInfo) (z:Value) (b r:Nat) (E:P.underlying t=some (.slice e)) (y:P.info? e=some i) (M:i.zero=some z)
  (D:i.size=b) (J:i.bytes=r) (ab:z.cells.size=b) (Z:0<b)
  (v:Value) (n:Nat) (xs:List Value) (Y:a.eval s=v) (q:w.ownsRow base e b v n xs)
  (l:Addr) (m c:Nat) (f:List Value) (hx:a.eval x= .slice (some l) m c) (A:f.length=m*b) (B:∀ j u,f[j]?=some u->w.cell? (l.add j)=some u) (F:∀ u∈f,u.oneCell'=true)
  (U:0<m) (G:n+m<=maxLen) (L:(n+m)*r<=140737488355328) (T:base<=w.heap.size) (H:Nat) (I:w.heap.size=H)
  (h:∀ g cap w',w'.ownsRow base e b (.slice (some ⟨g,0,none⟩) (n+m) cap) (n+m) (xs++f)->((v.ownBlock=some g/\w.grownBy w' (some g))\/(g=H/\w.grownBy w' none))->g<w'.heap.size->K (a.put o.dst (.slice (some ⟨g,0,none⟩) (n+m) cap)) w'):o.wp P a w K Q:=by
 obtain⟨g,cap,w',C,N,O,p,R⟩:=run_append_lies (P:=P) w t o.type base e i z b r E y M D J ab Z v n xs q l m c f A B F U G L T H I;have key:(v.ownBlock=some g/\w.grownBy w' (some g))\/(g=H/\w.grownBy w' none):=by
  have hsmall:n+m<=9223372036854775807:=by simp only [maxLen]at G;omega
  rcases q.2 with ⟨rfl,rfl⟩ | ⟨g0,cap0,cur,rfl,hbg,hg,hnc,hcm,hcs,htake⟩
  ·rcases p with p | p
   ·cases p
   ·exact Or.inr ⟨p,O⟩
  ·by_cases X:n+m<=cap0
   ·obtain⟨w2,d,h6,S⟩:=run_append_fits (P:=P) w base t o.type e i b E y D g0 n cap0 xs q l m c f A B F X;rw [C]at d;simp only [Result.ok.injEq,Value.slice.injEq,Option.some.injEq,Addr.mk.injEq,true_and,and_true]at d;obtain⟨⟨rfl,rfl⟩,rfl⟩:=d;exact Or.inl ⟨rfl,S⟩
   ·subst D;subst J;have W:∀ j u,xs[j]?=some u->w.cell? ((⟨g0,0,none⟩:Addr).add j)=some u:=q.cells (g:=g0) rfl;have d:=run_append_grow (P:=P) w t o.type e i z E y M ⟨g0,0,none⟩ n cap0 xs q.1 W l m c f A B (by omega) (by omega) (growslice_fits (by omega) L);rw [C]at d;simp only [Result.ok.injEq,Value.slice.injEq,Option.some.injEq,Addr.mk.injEq,true_and,and_true]at d;obtain⟨⟨rfl,rfl⟩,rfl⟩:=d;exact Or.inr ⟨I,⟨rfl,rfl,rfl,by simp,fun k hk _=>Below.heap_alloc w.drew _ k hk⟩⟩
 unfold Oper.wp execOp;simp only [V,resolve,invoke,builtin,Sem.run_bind,Sem.run_pure,Result.andThen_ok,List.map_toArray,List.map_cons,List.map_nil,Y,hx,C];exact h g cap w' N key R
end
def codeL(c:List Ins):List Value:=c.flatMap insL
theorem jE(c:List Ins):(codeL c).length=c.length*4:=by
 induction c with
 | nil=>rfl
 | cons i c ih=>simp only [codeL,List.flatMap_cons,List.length_append]at*;rw [ih];simp [insL];omega
theorem vD(c:List Ins):∀ v∈codeL c,v.oneCell'=true:=by
 intro v a;simp only [codeL,List.mem_flatMap,insL,List.mem_cons,List.not_mem_nil,or_false]at a;obtain⟨i,_,rfl | rfl | rfl | rfl⟩:=a<;>rfl
theorem na:∀ (c:List Ins) (k:Nat) (hk:k<c.length),(codeL c)[k*4]?=some (.int .i64 c[k].op)/\(codeL c)[k*4+1]?=some (.int .i64 c[k].a)/\(codeL c)[k*4+2]?=some (.int .i64 c[k].b)/\(codeL c)[k*4+3]?=some (.int .i64 c[k].n)
 | [],k,hk=>by simp at hk
 | i::c,0,hk=>by simp [codeL,insL]
 | i::c,k+1,hk=>by
  have h:=na c k (by simpa using hk);have e:codeL (i::c)=insL i++codeL c:=by simp [codeL]
  have e4:∀ j,(codeL (i::c))[(k+1)*4+j]?=(codeL c)[k*4+j]?:=fun j=>by
   rw [e,List.getElem?_append_right (by simp [insL];omega)];congr 1
   simp [insL];omega
  refine⟨?_,?_,?_,?_⟩
  ·have:=e4 0;simp only [Nat.add_zero]at this;rw [this];simpa using h.1
  ·rw [e4 1];simpa using h.2.1
  ·rw [e4 2];simpa using h.2.2.1
  ·rw [e4 3];simpa using h.2.2.2
theorem rX{w:World}{d:Addr}{i:Nat}{c:List Ins}(h:CodeAt w (.slice (some d) c.length i) c):∀ j v,(codeL c)[j]?=some v->w.cell? (d.add j)=some v:=by
 intro j v b;have s:=(List.getElem?_eq_some_iff.1 b).1;rw [jE]at s;obtain⟨ao,cap',e,h⟩:=h;have f:j / 4<c.length:=by omega
 obtain⟨g,o,rfl,k,l,m,n⟩:=h (j / 4) f;simp only [Value.slice.injEq,Option.some.injEq]at e;obtain⟨rfl,_⟩:=e;have r:(⟨g,o,none⟩:Addr).add j=⟨g,o+j,none⟩:=by unfold Addr.add;split<;>simp_all
 obtain⟨g1,g2,p,q⟩:=na c (j / 4) f;rw [r];rcases(by omega:j % 4=0\/j % 4=1\/j % 4=2\/j % 4=3)with h0 | h0 | h0 | h0
 ·have a:j=j / 4*4:=by omega
  rw [a,g1]at b;rw [a];rw [k];exact b
 ·have a:j=j / 4*4+1:=by omega
  rw [a,g2]at b;rw [a,<-Nat.add_assoc];rw [l];exact b
 ·have a:j=j / 4*4+2:=by omega
  rw [a,p]at b;rw [a,<-Nat.add_assoc];rw [m];exact b
 ·have a:j=j / 4*4+3:=by omega
  rw [a,q]at b;rw [a,<-Nat.add_assoc];rw [n];exact b
theorem pH{P:Program}(w:World)(t ty f:TypeId)(m:P.underlying t=some (.slice f))(l:(P.info? f).map (·.size)=some 4)(g d n:Nat)(sv:Value)(c:List Ins)(o:CodeAt w sv c)(cur:Array Value)(b:TypeId)(j:w.heap[g]?=some (.cells cur b (0,0)))(A:c.length<=d)(y:c.length*4<=cur.size):
  ∃ w',(Builtin.copy_ #[t,t] ty #[.slice (some ⟨g,0,none⟩) d n,sv]).run P w= .ok (goInt c.length) w'/\w'.heap[g]?=some (.cells (codeL c++cur.toList.drop (c.length*4)).toArray b (0,0))/\w.grownBy w' (some g):=by
 have x:=o;obtain⟨q,r,e,hc⟩:=o;subst e;by_cases v:c.length=0
 ·have z:c=[]:=List.length_eq_zero_iff.1 v;subst z;refine⟨w,?_,?_,ir _ _⟩
  ·cases hq:P.info? f with
   | none=>simp [hq]at l
   | some i=>
    have hi:i.size=4:=by simpa [hq]using l
    cases q with
    | none=>simp [Builtin.copy_,run_underlying m,Builtin.lenOf,Builtin.firstCells,sizeOf,typeInfo,hq,storeCells]
    | some a=>simp [Builtin.copy_,run_underlying m,Builtin.lenOf,Builtin.firstCells,sizeOf,typeInfo,hq,storeCells,loadCells,loadCellsFrom]
  ·rw [j];simp [codeL]
 ·obtain⟨u,B,s,_⟩:=hc 0 (by omega);subst s;have p:Nat.min c.length d=c.length:=Nat.min_eq_left A;have h:=pf (P:=P) w t t ty f g d n ⟨u,B,none⟩ c.length r 4 cur b (codeL c) m l j (by rw [jE,p]) (rX x) (by rw [jE];exact y) (vD c);rw [p,jE]at h;exact⟨_,h,setRow_heap w g cur _ b (0,0) j,⟨rfl,rfl,rfl,by simp,fun k hk h=>setRow_other w g k _ (fun e=>h (by rw [e]))⟩⟩
theorem tr(l:List Nat)(j:Nat):(l.take j).sum<=l.sum:=by
 conv=>rhs;rw [<-List.take_append_drop j l,List.sum_append]
 omega
theorem pL(l:List Nat)(j:Nat)(a:j<l.length):(l.take j).sum+l[j]<=l.sum:=by
 have:=tr l (j+1);rw [List.take_succ_eq_append_getElem a,List.sum_append]at this;simpa using this
section
variable {B : Nat} {w w' : World} {b : Nat} {who who' : Nat -> Role} {n : Int} {f : Nat -> Value} {K : Nat -> List (Value × Int)} {E : Nat -> List Value} {LI : List (Nat × List Int × Value)} {LC : List (Nat × List Ins × Value)} {LR : List (Nat × Nat)} {tail : Nat}
theorem Le.row_in(h:Le w who LI LC LR tail)(j:Nat)(b:j<LR.length):((LR.take j).map (·.2)).sum+LR[j].2<=LC.length:=by
 have a:=pL (LR.map (·.2)) j (by simpa using b);have h2:=h.sum;rw [<-List.map_take]at a;simp only [List.getElem_map]at a;omega
theorem Le.addCode(h:Le w who LI LC LR tail){g:Nat}{c:List Ins}{l:Value}(q:w.heap[g]?=some (.cells (lentCode c) 65 (0,0)))(t:who g= .lent)(p:CodeAt w l c)(s:valOther who l)(r:c.length<=4398046510976)
  (i:g∉LI.map (·.1)++(LC.map (·.1)++LR.map (·.1))):Le w who LI (LC++[(g,c,l)]) LR (tail+1):=by
 refine⟨h.li,fun x a=>?_,fun j hj=>?_,by have:=h.sum;simp;omega,?_⟩
 ·rcases List.mem_append.1 a with a | a
  ·exact h.lc x a
  ·simp at a;subst a;exact⟨q,t,p,s,r⟩
 ·obtain⟨k,d,f⟩:=h.lr j hj;have h1:=h.row_in j hj;refine⟨?_,d,f⟩;rw [k];congr 2
  rw [List.drop_append_of_le_length (by omega),List.take_append_of_le_length (by rw [List.length_drop];omega)]
 ·have:=h.nd;simp only [List.map_append,List.map_cons,List.map_nil,List.append_assoc,List.singleton_append];simp only [List.mem_append,not_or]at i;rw [List.nodup_append]at this ⊢;obtain⟨k,d,f⟩:=this;rw [List.nodup_append]at d;obtain⟨m,n,o⟩:=d;refine⟨k,?_,?_⟩
  ·rw [List.nodup_append];refine⟨m,?_,?_⟩
   ·rw [List.nodup_cons];exact⟨i.2.2,n⟩
   ·intro x a y b;rcases List.mem_cons.1 b with rfl | b
    ·intro e;subst e;exact i.2.1 a
    ·exact o x a y b
  ·intro x a y b;rcases List.mem_append.1 b with b | b
   ·exact f x a y (List.mem_append.2 (Or.inl b))
   ·rcases List.mem_cons.1 b with rfl | b
    ·intro e;subst e;exact i.1 a
    ·exact f x a y (List.mem_append.2 (Or.inr b))
theorem Le.addRow(h:Le w who LI LC LR tail){g:Nat}(p:w.heap[g]?=some (.cells (lentRows (LC.drop ((LR.map (·.2)).sum))) 66 (0,0)))(r:who g= .lent)(q:tail<=5864062014634)
  (f:g∉LI.map (·.1)++(LC.map (·.1)++LR.map (·.1))):Le w who LI LC (LR++[(g,tail)]) 0:=by
 have hsum:=h.sum;refine⟨h.li,h.lc,fun j hj=>?_,by simp;omega,?_⟩
 ·by_cases e:j<LR.length
  ·obtain⟨i,c,d⟩:=h.lr j e;rw [List.getElem_append_left e,List.take_append_of_le_length (by omega)];exact⟨i,c,d⟩
  ·have o:j=LR.length:=by simp at hj;omega
   subst o;have n:(LR++[(g,tail)])[LR.length]'hj=(g,tail):=by simp
   rw [n,List.take_append_of_le_length (Nat.le_refl _),List.take_length,List.take_of_length_le (by rw [List.length_drop];omega)];exact⟨p,r,q⟩
 ·have:=h.nd;simp only [List.mem_append,not_or]at f;simp only [List.map_append,List.map_cons,List.map_nil];rw [List.nodup_append]at this ⊢;obtain⟨i,c,d⟩:=this;rw [List.nodup_append]at c;obtain⟨k,l,m⟩:=c;refine⟨i,?_,?_⟩
  ·rw [List.nodup_append];refine⟨k,?_,?_⟩
   ·rw [List.nodup_append];refine⟨l,by simp,?_⟩;intro x b y a;simp at a;subst a
    intro e;subst e;exact f.2.2 b
   ·intro x b y a;rcases List.mem_append.1 a with a | a
    ·exact m x b y a
    ·simp at a;subst a
     intro e;subst e;exact f.2.1 b
  ·intro x b y a;rcases List.mem_append.1 a with a | a
   ·exact d x b y (List.mem_append.2 (Or.inl a))
   ·rcases List.mem_append.1 a with a | a
    ·exact d x b y (List.mem_append.2 (Or.inr a))
    ·simp at a;subst a
     intro e;subst e;exact f.1 b
theorem zG(b:List (Nat × List Int × Value))(a:List (Nat × List Ins × Value))(d:List (Nat × Nat))(g:Nat)(c:List Ins)(e:Value):
  setE (setE (EL b a d) 2 (EL b a d 2++[sl2 g c.length])) 3 (setE (EL b a d) 2 (EL b a d 2++[sl2 g c.length]) 3++[e])=EL b (a++[(g,c,e)]) d:=by
 funext k
 match k with
 | 0=>simp [setE,EL]
 | 1=>simp [setE,EL]
 | 2=>simp [setE,EL]
 | 3=>simp [setE,EL]
 | 4=>simp [setE,EL]
 | k+5=>simp [setE,EL]
theorem Bv(b:List (Nat × List Int × Value))(a:List (Nat × List Ins × Value))(c:List (Nat × Nat))(g t:Nat):
  setE (EL b a c) 4 (EL b a c 4++[sl2 g t])=EL b a (c++[(g,t)]):=by
 funext k
 match k with
 | 0=>simp [setE,EL]
 | 1=>simp [setE,EL]
 | 2=>simp [setE,EL]
 | 3=>simp [setE,EL]
 | 4=>simp [setE,EL]
 | k+5=>simp [setE,EL]
end
theorem lE{w:World}{g:Nat}{c:List Ins}(h:w.heap[g]?=some (.cells (lentCode c) 65 (0,0)))(a:Nat):CodeAt w (.slice (some ⟨g,0,none⟩) c.length a) c:=by
 refine⟨some ⟨g,0,none⟩,a,rfl,fun k hk=>⟨g,0,rfl,?_⟩⟩;obtain⟨g1,g2,b,d⟩:=na c k hk;have hl:=jE c;have key:∀ j v,(codeL c)[j]?=some v->w.cell? ⟨g,j,none⟩=some v:=fun j v hj=>by
  have f:=(List.getElem?_eq_some_iff.1 hj).1;simp only [World.cell?,h,lentCode,List.getElem?_toArray];have e:List.flatMap insL c=codeL c:=rfl;rw [e,List.getElem?_append_left f];exact hj
 exact⟨by rw [Nat.zero_add];exact key _ _ g1,by rw [Nat.zero_add];exact key _ _ g2,by rw [Nat.zero_add];exact key _ _ b,by rw [Nat.zero_add];exact key _ _ d⟩
theorem ky{w:World}{who:Nat->Role}{d:List (Nat × List Int × Value)}{LC0 LC1:List (Nat × List Ins × Value)}{f:List (Nat × Nat)}{g:Nat}{p:List (List Ins)}(h:Le w who d (LC0++LC1) f 0)(i:w.heap[g]?=some (.cells (lentRows LC1) 66 (0,0)))
  (c:LC1.map (·.2.1)=p) (b:Nat):ProgAt w (.agg #[.slice (some ⟨g,0,none⟩) p.length b]) p:=by
 have hl:LC1.length=p.length:=by rw [<-c];simp
 refine⟨some ⟨g,0,none⟩,b,rfl,fun t ht=>⟨g,0,rfl,slC (LC1[t]'(by omega)),?_,?_⟩⟩
 ·rw [Nat.zero_add];simp only [World.cell?,i,lentRows,List.getElem?_toArray];rw [List.getElem?_append_left (by simp;omega),List.getElem?_map,List.getElem?_eq_getElem (by omega)];rfl
 ·have j:LC1[t]'(by omega)∈LC0++LC1:=List.mem_append.2 (Or.inr (List.getElem_mem _));obtain⟨a,_⟩:=h.lc _ j;have e:p[t]=(LC1[t]'(by omega)).2.1:=by simp [<-c]
  rw [e];exact lE a _
section
variable {B : Nat} {w w' : World} {b : Nat} {who who' : Nat -> Role} {n : Int} {f : Nat -> Value} {K : Nat -> List (Value × Int)} {E : Nat -> List Value} {LI : List (Nat × List Int × Value)} {LC : List (Nat × List Ins × Value)} {LR : List (Nat × Nat)} {tail : Nat}
theorem Le.keepIn(h:Le w who LI LC LR tail)(m:Fr w w' who who' (fun _=>False))(n:∀ g∈LI.map (·.1)++(LC.map (·.1)++LR.map (·.1)),w'.heap[g]?=w.heap[g]?/\who' g= .lent):Le w' who' LI LC LR tail:=by
 have u:∀ g,g<w.heap.size->who g= .other->w'.heap[g]?=w.heap[g]?:=fun g h1 k=>(m.oth g h1 k (fun e=>e)).1
 refine⟨fun x hx=>?_,fun x hx=>?_,fun j hj=>?_,h.sum,h.nd⟩
 ·obtain⟨a,b,c,d,e⟩:=h.li x hx;have f:=n x.1 (List.mem_append.2 (Or.inl (List.mem_map.2 ⟨x,hx,rfl⟩)));obtain⟨k1,k2⟩:=kc c d m;exact⟨by rw [f.1];exact a,f.2,k1,k2,e⟩
 ·obtain⟨a,b,c,d,e⟩:=h.lc x hx;have f:=n x.1 (List.mem_append.2 (Or.inr (List.mem_append.2 (Or.inl (List.mem_map.2 ⟨x,hx,rfl⟩)))));refine⟨by rw [f.1];exact a,f.2,mD c d u,?_,e⟩;obtain⟨ao,cap,s,k⟩:=c;intro g o l p i v;have t:=d g o l p i v;rw [s]at i;simp only [Value.slice.injEq]at i;obtain⟨g',o',q,r,_⟩:=k 0 (by omega);rw [q]at i;simp only [Option.some.injEq,Addr.mk.injEq,and_true]at i;obtain⟨⟨rfl,_⟩,_⟩:=i;exact(m.oth _ (World.block_lt_of_cell? w _ r) t (fun e=>e)).2
 ·obtain⟨a,b,c⟩:=h.lr j hj;have f:=n LR[j].1 (List.mem_append.2 (Or.inr (List.mem_append.2 (Or.inr (List.mem_map.2 ⟨LR[j],List.getElem_mem hj,rfl⟩)))));exact⟨by rw [f.1];exact a,f.2,c⟩
theorem Lx.setOut(h:Lx B w b who n f K E LI LC LR tail){g o:Nat}{v:Value}(c:who g= .lent)(i:g∉LI.map (·.1)++(LC.map (·.1)++LR.map (·.1))):Lx B (w.setCell ⟨g,o,none⟩ v) b who n f K E LI LC LR tail:=by
 have d:∀ g',g'≠g->(w.setCell ⟨g,o,none⟩ v).heap[g']?=w.heap[g']?:=fun g' e=>Below.heap_setCell _ _ _ _ (by simpa using e)
 refine⟨⟨h.hs.1.same (by simp) (fun g' _ _ h3=>d g' (fun e=>by subst e;rw [c]at h3;cases h3)),h.hs.2⟩,h.lr.same (fun g' k e=>d g' (fun e2=>by subst e2;rw [c]at e;cases e)),h.le.keepIn (Fr.set (Or.inl (by rw [c];simp))) (fun g' e=>⟨d g' (fun e2=>i (by rw [<-e2];exact e)),(h.le.lt g' e).2⟩)⟩
theorem Lx.addCode{LC1:List (Nat × List Ins × Value)}(h:Lx B w b who n f K E LI LC LR tail){g:Nat}{c:List Ins}{a:Value}(j:w.heap[g]?=some (.cells (lentCode c) 65 (0,0)))(o:who g= .lent)(e:CodeAt w a c)(m:valOther who a)(k:c.length<=4398046510976)
  (l:g∉LI.map (·.1)++(LC.map (·.1)++LR.map (·.1))) (i:E=EL LI LC1 LR) (d:LC1=LC++[(g,c,a)]):Lx B w b who n f K (EL LI LC1 LR) LI LC1 LR (tail+1):=by
 subst d;subst i;exact⟨h.hs,h.lr,h.le.addCode j o e m k l⟩
end
section
variable {B : Nat} {w w' : World} {b : Nat} {who who' : Nat -> Role} {n : Int} {f : Nat -> Value} {K : Nat -> List (Value × Int)} {E : Nat -> List Value} {LI : List (Nat × List Int × Value)} {LC : List (Nat × List Ins × Value)} {LR : List (Nat × Nat)} {tail : Nat}
theorem Lx.new2(h:Lx B w b who n f K E LI LC LR tail)(i:w.grownBy w' none){g1 g2:Nat}(m:w.heap.size<=g1)(o:g1<w'.heap.size)(p:w.heap.size<=g2)(q:g2<w'.heap.size):
  Lx B w' b (setW (setW who g1 .lent) g2 .lent) n f K E LI LC LR tail/\Fr w w' who (setW (setW who g1 .lent) g2 .lent) (fun _=>False):=by
 have a:∀ g',who g'≠ .other->setW (setW who g1 .lent) g2 .lent g'=who g':=fun g' e=>by
  have:=(h.hs.1.dom g' e).2;rw [iJ _ _ (by omega),iJ _ _ (by omega)]
 have d:=h.grown i;have hb:=h.low;have l:Fr w w' who (setW (setW who g1 .lent) g2 .lent) (fun _=>False):=Fr.setW (Fr.setW (Fr.grown i) (Or.inl m)) (Or.inl p);refine⟨⟨⟨d.hs.1.more a (fun g' e=>?_),fun c hc x hx g' e=>?_⟩,d.lr.more a,?_⟩,l⟩
 ·by_cases j:g'=g2
  ·subst j;exact⟨by omega,q⟩
  ·rw [iJ _ _ j]at e;by_cases k:g'=g1
   ·subst k;exact⟨by omega,o⟩
   ·rw [iJ _ _ k]at e;exact d.hs.1.dom g' e
 ·have:=h.hs.2 c hc x hx g' e;rw [a g' (by rw [this];simp),this]
 ·exact h.le.keep l (fun g' e=>⟨i.block g' (h.hs.1.dom g' (by rw [e];simp)).2 (by simp),by rw [a g' (by rw [e];simp)];exact e⟩)
end
end
end Go.Proofs.YtklenjmfalljgabGreatDoor
