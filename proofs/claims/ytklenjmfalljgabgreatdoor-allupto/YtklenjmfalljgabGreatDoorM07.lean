/- The texts Hnd Hnd2 Hnd3 Hnd4 Hga Hgb Hgc. -/
import Derived.Test.YtklenjmfalljgabGreatDoorM02
import Derived.Laws.CopyOwn
namespace Go.Proofs.YtklenjmfalljgabGreatDoor
set_option maxRecDepth 100000
set_option maxHeartbeats 8000000
section
open Go.RowKit
attribute [local go_sem] Go.World.cell?_alloc_some
def hc(iv wv:Value)(n:Int)(ov mv:Value):Array Value:= #[iv,wv,.slice none 0 0,.slice none 0 0,.slice none 0 0,.int .i64 n,ov,mv,.slice none 0 0,.slice none 0 0,.slice none 0 0,.slice none 0 0,.slice none 0 0,.slice none 0 0,.slice none 0 0,.slice none 0 0]
def HAt(w:World)(b:Nat)(iv wv:Value)(n:Int)(ov mv:Value):Prop:=w.heap[b]?=some (.cells (hc iv wv n ov mv) 45 (0,0))
theorem HAt.cell{w:World}{b:Nat}{a c:Value}{n:Int}{ov mv:Value}(h:HAt w b a c n ov mv)(o:Nat):w.cell? ⟨b,o,none⟩=(hc a c n ov mv)[o]?:=by
 unfold HAt at h;simp [World.cell?,h]
theorem HAt.frozen{w:World}{b:Nat}{a c:Value}{n:Int}{ov mv:Value}(h:HAt w b a c n ov mv)(o:Nat):w.frozen? ⟨b,o,none⟩=false:=by
 unfold HAt at h;simp [World.frozen?,h]
theorem HAt.lt{w:World}{b:Nat}{iv wv:Value}{n:Int}{ov mv:Value}(h:HAt w b iv wv n ov mv):b<w.heap.size:=(Array.getElem?_eq_some_iff.1 h).1
theorem HAt.grown{w w':World}{b:Nat}{a c:Value}{n:Int}{ov mv:Value}{r:Option Nat}(h:HAt w b a c n ov mv)(d:w.grownBy w' r)(i:r≠some b):HAt w' b a c n ov mv:=by
 have f:=h.lt;unfold HAt at*;rw [d.block b f (fun e=>i e.symm)];exact h
theorem HAt.setOther{w:World}{b g o:Nat}{u:Value}{a c:Value}{n:Int}{ov mv:Value}(h:HAt w b a c n ov mv)(d:b≠g):HAt (w.setCell ⟨g,o,none⟩ u) b a c n ov mv:=by
 unfold HAt at*;rw [Below.heap_setCell _ _ _ _ (by simpa using d)];exact h
theorem HAt.set6{w:World}{b:Nat}{a c:Value}{n:Int}{ov mv:Value}(h:HAt w b a c n ov mv)(u:Value):HAt (w.setCell ⟨b,6,none⟩ u) b a c n u mv:=by
 unfold HAt at*;rw [heap_setCell_same w b 6 _ _ _ h];rfl
theorem HAt.set7{w:World}{b:Nat}{a c:Value}{n:Int}{ov mv:Value}(h:HAt w b a c n ov mv)(u:Value):HAt (w.setCell ⟨b,7,none⟩ u) b a c n ov u:=by
 unfold HAt at*;rw [heap_setCell_same w b 7 _ _ _ h];rfl
theorem pi(l m:List Int)(v u:Value)(w:World)(E:IntsAt w.heap.size w v l)(F:IntsAt w.heap.size w u m)(hln:l.length<=9223372036854775806):
  Calls Tryz.prog 30 #[v,u] w fun e w'=>e= .returned (.bool (l==m))/\Like w' w:=by
 obtain⟨ao,cap,rfl,hcap,hc⟩:=E;obtain⟨bo,dap,rfl,hdap,p⟩:=F;by_cases q:l.length=m.length
 ·have C:=ij hc;have D:=ij p;clear hc p;have G:(l.length:Int)=m.length:=by omega
  have H:((l.length:Int) !=(m.length:Int))=false:=by simp;omega
  have s:=ij q;go_enter Tryz.func30,Tryz.ntmps30
  clear q G;go_wp2_with fail
  go_loopw [5] (fun i w'=>∃ k:Nat,k<=l.length/\i= .int .i64 k/\Hid (Like w' w)/\Hid (l.take k=m.take k)) (fun i _=>l.length - (intOf i).toNat)
  case atStart=>exact⟨0,Nat.zero_le _,rfl,ij (iT _),by simp [Hid]⟩
  case round=>
   obtain⟨k,hk,rfl,f,r⟩:=hrel;obtain⟨d,J⟩:∃ d,d=wr:=⟨_,rfl⟩;subst J;by_cases z:k<l.length
   ·have A:k<m.length:=by have:=s.out;omega
    obtain⟨g,o,rfl,_,c0⟩:=C.out k z;obtain⟨g2,K,rfl,_,c1⟩:=D.out k A;have n:∀ a,d.cell? a=w.cell? a:=fun a=>by simp [World.cell?,f.out.1]
    have d0:d.cell? ⟨g,o+k,none⟩=some (.int .i64 l[k]):=by rw [n];exact c0
    have d1:d.cell? ⟨g2,K+k,none⟩=some (.int .i64 m[k]):=by rw [n];exact c1
    have hk0:(0:Int)<=(k:Int):=by omega
    have hk1:(k:Int)<l.length:=by omega
    have hk2:(k:Int)<m.length:=by omega
    have h:Hid (l.take (k+1)=l.take k++[l[k]]):=List.take_succ_eq_append_getElem z;have j:Hid (m.take (k+1)=m.take k++[m[k]]):=List.take_succ_eq_append_getElem A;clear n c0 c1;by_cases b:l[k]=m[k]
    ·have I:(l[k] !=m[k])=false:=by simpa using b
     have B:Hid (l.take (k+1)=m.take (k+1)):=by unfold Hid;rw [h.out,j.out,r.out,b]
     clear b h j;generalize l[k]=x at*;generalize m[k]=y at*;go_wp2_with fail
     go_quiet (fail)
     go_wp2_with fail
     go_roundw
     case rel=>exact⟨k+1,by omega,by go_num,ij (jb f.out _),B⟩
     case measure=>simp [intOf];omega
    ·have I:(l[k] !=m[k])=true:=by simpa using b
     have c:Hid ((l==m)=false):=by
      unfold Hid;simp only [beq_eq_false_iff_ne];intro e;apply b;simp [e]
     clear b h j;generalize l[k]=x at*;generalize m[k]=y at*;go_wp2_with fail
     go_quiet (fail)
     go_wp2_with fail
     go_ret;exact⟨by rw [c.out];rfl,jb f.out _⟩
   ·have c:Hid ((l==m)=true):=by
     unfold Hid;have t:=r.out;rw [List.take_of_length_le (by omega),List.take_of_length_le (by have:=s.out;omega)]at t;simpa using t
    have q2:(l.length:Int)<=(k:Int):=by omega
    go_wp2_with fail
    go_ret;exact⟨by rw [c.out];rfl,f.out⟩
 ·have c:Hid ((l==m)=false):=by
   unfold Hid;simp only [beq_eq_false_iff_ne];intro e;exact q (by rw [e])
  have H:((l.length:Int) !=(m.length:Int))=true:=by simp;omega
  clear hc p;go_enter Tryz.func30,Tryz.ntmps30
  go_wp2_with fail
  go_ret;exact⟨by rw [c.out];rfl,iT _⟩
theorem pI{P:Program}(w:World)(t ty h:TypeId)(x:P.underlying t=some (.slice h))(u:(P.info? h).map (·.size)=some 1)(g b n:Nat)(sv:Value)(B:Nat)(l:List Int)(A:IntsAt B w sv l)(cur:Array Value)(f:TypeId)(o:w.heap[g]?=some (.cells cur f (0,0)))(F:l.length<=b)(hfit:l.length<=cur.size):
  ∃ w',(Builtin.copy_ #[t,t] ty #[.slice (some ⟨g,0,none⟩) b n,sv]).run P w= .ok (goInt l.length) w'/\w'.heap[g]?=some (.cells (ints l++cur.toList.drop l.length).toArray f (0,0))/\w.grownBy w' (some g):=by
 obtain⟨ao,q,e,hcap,hc⟩:=A;subst e;by_cases z:l.length=0
 ·have E:l=[]:=List.length_eq_zero_iff.1 z;subst E;refine⟨w,run_copy_none (P:=P) w t t ty h _ _ b n _ q x u (by simp),?_,ir _ _⟩;rw [o];simp [ints]
 ·obtain⟨i,m,y,_,_⟩:=hc 0 (by omega);subst y;have D:∀ k (p:k<l.length),w.cell? ⟨i,m+k,none⟩=some (.int .i64 l[k]):=by
   intro k p;obtain⟨g2,o2,r,_,c⟩:=hc k p;simp only [Option.some.injEq,Addr.mk.injEq,and_true]at r;obtain⟨rfl,rfl⟩:=r;exact c
  have G:Nat.min l.length b=l.length:=Nat.min_eq_left F;have d:=run_copy_row (P:=P) w t t ty h g 0 b n ⟨i,m,none⟩ l.length q cur f (ints l) x u o (by rw [jc,G]) (fun j v hj=>by
   have s:j<l.length:=by have:=(List.getElem?_eq_some_iff.1 hj).1;rwa [jc]at this
   have C:(⟨i,m,none⟩:Addr).add j=⟨i,m+j,none⟩:=by unfold Addr.add;split<;>simp_all
   rw [C,D j s,<-hj];simp [ints,s]) (by rw [jc];omega) (lz l)
  rw [jc]at d;simp only [List.take_zero,List.nil_append,Nat.zero_add]at d;exact⟨_,d,setRow_heap w g cur _ f (0,0) o,⟨rfl,rfl,rfl,by simp,fun k p d=>setRow_other w g k _ (fun e=>d (by rw [e]))⟩⟩
def ink:Value:= .int .i64 (-77000000)
def lentRow(l:List Int):Array Value:=(ints l++[ink,ink]).toArray
theorem p9:((Tryz.prog.info? 39).map fun i=>(i.zero,i.size,i.bytes))=some (some (.slice none 0 0),1,24):=by kernel_rfl
theorem AR(l:List Int)(cur:Array Value)(hc:cur.size=l.length+2):((ints l++cur.toList.drop l.length).toArray.setIfInBounds l.length ink).setIfInBounds (l.length+1) ink=lentRow l:=by
 obtain⟨c⟩:=cur;simp at hc;obtain⟨x,y,h⟩:∃ x y,c.drop l.length=[x,y]:=⟨c[l.length]'(by omega),c[l.length+1]'(by omega),by
  rw [List.drop_eq_getElem_cons (by omega),List.drop_eq_getElem_cons (by omega),List.drop_eq_nil_of_le (by omega)]⟩
 have e:∀ (a:List Value) (x y z:Value) (k:Nat),k=a.length->(a++[x,y]).set k z=a++[z,y]:=by
  intro a x y z k b;subst b;rw [List.set_append];simp
 have f:∀ (a:List Value) (x y z:Value) (k:Nat),k=a.length->(a++[x,y]).set (k+1) z=a++[x,z]:=by
  intro a x y z k b;subst b;rw [List.set_append,if_neg (by omega)];simp
 have d:=(jc l).symm;simp only [h,List.setIfInBounds_toArray,lentRow];rw [e _ _ _ _ _ d,f _ _ _ _ _ d]
theorem sB(l:List Int):(lentRow l).size=l.length+2:=by simp [lentRow,jc]
theorem ue(l:List Int)(k:Nat)(a:k<l.length):(lentRow l)[k]?=some (.int .i64 l[k]):=by
 simp [lentRow,ints,List.getElem?_append,a]
theorem qX(l:List Int):(lentRow l)[l.length]?=some ink:=by
 simp [lentRow,jc]
theorem qY(l:List Int):(lentRow l)[l.length+1]?=some ink:=by
 simp [lentRow,jc]
theorem jQ{w:World}{g:Nat}{l:List Int}(h:w.heap[g]?=some (.cells (lentRow l) 3 (0,0))):IntsAt w.heap.size w (.slice (some ⟨g,0,none⟩) l.length (l.length+2)) l:=by
 refine⟨some ⟨g,0,none⟩,l.length+2,rfl,by omega,fun k hk=>⟨g,0,rfl,(Array.getElem?_eq_some_iff.1 h).1,?_⟩⟩;rw [Nat.zero_add];simp only [World.cell?,h];exact ue l k hk
def Turned(w:World)(b g:Nat)(w':World):Prop:=w'.os=w.os/\w'.tape=w.tape/\w'.output=w.output/\w.heap.size<=w'.heap.size/\∀ k,k<w.heap.size->k≠b->k≠g->w'.heap[k]?=w.heap[k]?
theorem Turned.refl(w:World)(b g:Nat):Turned w b g w:=⟨rfl,rfl,rfl,Nat.le_refl _,fun _ _ _ _=>rfl⟩
theorem Turned.below{w w1 w2:World}{b g:Nat}(h:Turned w b g w1)(hb:Below w1.heap.size w1 w2):Turned w b g w2:=
 ⟨hb.os.trans h.1,hb.tape.trans h.2.1,hb.output.trans h.2.2.1,Nat.le_trans h.2.2.2.1 hb.size,fun k hk h1 h2=>by rw [hb.block k (Nat.lt_of_lt_of_le hk h.2.2.2.1)];exact h.2.2.2.2 k hk h1 h2⟩
theorem Turned.set{w w1:World}{b g c o:Nat}{v:Value}(h:Turned w b g w1)(hc:c=b\/c=g):Turned w b g (w1.setCell ⟨c,o,none⟩ v):=
 ⟨h.1,h.2.1,h.2.2.1,by simpa using h.2.2.2.1,fun k hk h1 h2=>by rw [Below.heap_setCell _ _ _ _ (by rcases hc with rfl | rfl<;>simpa using by assumption)];exact h.2.2.2.2 k hk h1 h2⟩
theorem Turned.like{w w1 w2:World}{b g:Nat}(h:Turned w b g w1)(hl:Like w2 w1):Turned w b g w2:=
 ⟨hl.2.1.trans h.1,hl.2.2.2.trans h.2.1,hl.2.2.1.trans h.2.2.1,by rw [hl.1];exact h.2.2.2.1,fun k hk h1 h2=>by rw [hl.1];exact h.2.2.2.2 k hk h1 h2⟩
section
variable {P : Program} {w : World}
theorem iE{N:Array Oper}{O:List Oper}{o:Oper}{a:Act}{Q:Exit->Act->World->Prop}(W:o.guard=none)(s x:Operand)(t:TypeId)
  (Y:o.op= .call { callee:= .builtin .append,args:= #[s,x],argTypes:= #[t,t]})
  (base:Nat) (e:TypeId) (i:TypeInfo) (z:Value) (b r:Nat) (E:P.underlying t=some (.slice e)) (y:P.info? e=some i) (M:i.zero=some z)
  (D:i.size=b) (J:i.bytes=r) (af:z.cells.size=b) (ac:0<b)
  (v:Value) (n:Nat) (xs:List Value) (hs:a.eval s=v) (q:w.ownsRow base e b v n xs)
  (l:Addr) (m c:Nat) (f:List Value) (hx:a.eval x= .slice (some l) m c) (A:f.length=m*b) (B:∀ j u,f[j]?=some u->w.cell? (l.add j)=some u) (F:∀ u∈f,u.oneCell'=true)
  (X:0<m) (G:n+m<=maxLen) (L:(n+m)*r<=140737488355328) (V:base<=w.heap.size) (H:Nat) (I:w.heap.size=H)
  (h:∀ g cap w',w'.ownsRow base e b (.slice (some ⟨g,0,none⟩) (n+m) cap) (n+m) (xs++f)->((v.ownBlock=some g/\w.grownBy w' (some g))\/(g=H/\w.grownBy w' none))->g<w'.heap.size->wpList P N Q O (a.put o.dst (.slice (some ⟨g,0,none⟩) (n+m) cap)) w'):wpList P N Q (o::O) a w:=by
 refine wpList_plain W fun K hK=>?_
 obtain⟨g,cap,w',C,R,S,p,T⟩:=run_append_lies (P:=P) w t o.type base e i z b r E y M D J af ac v n xs q l m c f A B F X G L V H I;have key:(v.ownBlock=some g/\w.grownBy w' (some g))\/(g=H/\w.grownBy w' none):=by
  have hsmall:n+m<=9223372036854775807:=by simp only [maxLen]at G;omega
  rcases q.2 with ⟨rfl,rfl⟩ | ⟨g0,cap0,cur,rfl,hbg,hg,hnc,hcm,hcs,htake⟩
  ·rcases p with p | p
   ·cases p
   ·exact Or.inr ⟨p,S⟩
  ·by_cases aa:n+m<=cap0
   ·obtain⟨w2,d,h6,U⟩:=run_append_fits (P:=P) w base t o.type e i b E y D g0 n cap0 xs q l m c f A B F aa;rw [C]at d;simp only [Result.ok.injEq,Value.slice.injEq,Option.some.injEq,Addr.mk.injEq,true_and,and_true]at d;obtain⟨⟨rfl,rfl⟩,rfl⟩:=d;exact Or.inl ⟨rfl,U⟩
   ·subst D;subst J;have Z:∀ j u,xs[j]?=some u->w.cell? ((⟨g0,0,none⟩:Addr).add j)=some u:=q.cells (g:=g0) rfl;have d:=run_append_grow (P:=P) w t o.type e i z E y M ⟨g0,0,none⟩ n cap0 xs q.1 Z l m c f A B (by omega) (by omega) (growslice_fits (by omega) L);rw [C]at d;simp only [Result.ok.injEq,Value.slice.injEq,Option.some.injEq,Addr.mk.injEq,true_and,and_true]at d;obtain⟨⟨rfl,rfl⟩,rfl⟩:=d;exact Or.inr ⟨I,⟨rfl,rfl,rfl,by simp,fun k hk _=>Below.heap_alloc w.drew _ k hk⟩⟩
 unfold Oper.wp execOp;simp only [Y,resolve,invoke,builtin,Sem.run_bind,Sem.run_pure,Result.andThen_ok,List.map_toArray,List.map_cons,List.map_nil,hs,hx,C];exact hK _ _ (h g cap w' R key T)
end
def Kept(w:World)(x:Value × Int):Prop:=x.1= .slice none 0 0\/∃ g len cap,x.1= .slice (some ⟨g,0,none⟩) len cap/\len<=1000/\∀ k,k<len->w.cell? ⟨g,k,none⟩=some (.int .i64 x.2)
structure KeptAll(B:Nat)(w:World)(b:Nat)(ov mv:Value)(K:List (Value × Int)):Prop where
 orow:w.ownsRow B 39 1 ov K.length (K.map (·.1))
 mrow:w.ownsRow B 3 1 mv K.length (ints (K.map (·.2)))
 ob:ov.ownBlock≠some b
 mb:mv.ownBlock≠some b
 om:∀ g,ov.ownBlock=some g->mv.ownBlock≠some g
 kept:∀ x∈K,Kept w x/\∀ g,x.1.ownBlock=some g->g≠b/\ov.ownBlock≠some g/\mv.ownBlock≠some g/\g<w.heap.size
 lo:B<=b
def Hd(B:Nat)(w:World)(b:Nat)(n:Int)(K:List (Value × Int)):Prop:=∃ ov mv,HAt w b (.slice none 0 0) (.slice none 0 0) n ov mv/\KeptAll B w b ov mv K
theorem Kept.grown{w w':World}{x:Value × Int}{r:Option Nat}(h:Kept w x)(c:w.grownBy w' r)(d:∀ g,x.1.ownBlock=some g->r≠some g/\g<w.heap.size):Kept w' x:=by
 rcases h with h | ⟨g,len,cap,e,hl,hc⟩
 ·exact Or.inl h
 ·obtain⟨a,b⟩:=d g (by rw [e];rfl);refine Or.inr ⟨g,len,cap,e,hl,fun k hk=>?_⟩;rw [World.cell?_of_block (c.block g b (fun e=>a e.symm))];exact hc k hk
theorem iP{w:World}{base:Nat}{e:TypeId}{b:Nat}{v:Value}{n:Nat}{xs:List Value}(h:w.ownsRow base e b v n xs):∀ g,v.ownBlock=some g->g<w.heap.size:=by
 intro g a;rcases h.2 with ⟨e1,_⟩ | ⟨g',cap,cur,hv,hb,hh,_⟩
 ·rw [e1]at a;cases a
 ·rw [hv]at a;simp [Value.ownBlock]at a;rw [<-a];exact(Array.getElem?_eq_some_iff.1 hh).1
theorem oR{w w':World}{base:Nat}{e:TypeId}{b:Nat}{v:Value}{n:Nat}{xs:List Value}{r:Option Nat}(h:w.ownsRow base e b v n xs)(d:w.grownBy w' r)(f:∀ g,v.ownBlock=some g->r≠some g):w'.ownsRow base e b v n xs:=by
 obtain⟨c,a⟩:=h;refine⟨c,?_⟩;rcases a with a | ⟨g,cap,cur,hv,hb,hh,rest⟩
 ·exact Or.inl a
 ·refine Or.inr ⟨g,cap,cur,hv,hb,?_,rest⟩;rw [d.block g (Array.getElem?_eq_some_iff.1 hh).1 (fun e=>f g (by rw [hv];rfl) e.symm)];exact hh
theorem KeptAll.grown{B:Nat}{w w':World}{b:Nat}{ov mv:Value}{K:List (Value × Int)}{r:Option Nat}(h:KeptAll B w b ov mv K)(a:w.grownBy w' r)(c:∀ g,r=some g->ov.ownBlock≠some g/\mv.ownBlock≠some g/\∀ x∈K,x.1.ownBlock≠some g):KeptAll B w' b ov mv K:=by
 refine⟨oR h.orow a (fun g e1 e2=>(c g e2).1 e1),oR h.mrow a (fun g e1 e2=>(c g e2).2.1 e1),h.ob,h.mb,h.om,fun x hx=>?_,h.lo⟩;obtain⟨k1,k2⟩:=h.kept x hx;refine⟨k1.grown a (fun g e=>⟨fun e2=>(c g e2).2.2 x hx e,(k2 g e).2.2.2⟩),fun g e=>?_⟩;obtain⟨d,f,i,j⟩:=k2 g e;exact⟨d,f,i,Nat.lt_of_lt_of_le j a.size⟩
theorem Hd.grown{B:Nat}{w w':World}{b:Nat}{n:Int}{K:List (Value × Int)}(h:Hd B w b n K)(a:w.grownBy w' none):Hd B w' b n K:=by
 obtain⟨ov,mv,c,d⟩:=h;exact⟨ov,mv,c.grown a (by simp),d.grown a (fun g e=>by cases e)⟩
structure KS(W:World)(B:Nat)(w:World)(b:Nat)(n m:Int)(ov mv lv:Value)(len:Nat)(K:List (Value × Int))(M:List Int):Prop where
 h:HAt w b (.slice none 0 0) (.slice none 0 0) n ov mv
 orow:w.ownsRow B 39 1 ov K.length (K.map (·.1))
 mrow:w.ownsRow B 3 1 mv M.length (ints M)
 lrow:w.ownsRow B 3 1 lv len (List.replicate len (.int .i64 m))
 ob:ov.ownBlock≠some b
 mb:mv.ownBlock≠some b
 lb:lv.ownBlock≠some b
 om:∀ g,ov.ownBlock=some g->mv.ownBlock≠some g
 ol:∀ g,ov.ownBlock=some g->lv.ownBlock≠some g
 ml:∀ g,mv.ownBlock=some g->lv.ownBlock≠some g
 kept:∀ x∈K,Kept w x/\∀ g,x.1.ownBlock=some g->g≠b/\ov.ownBlock≠some g/\mv.ownBlock≠some g/\g<w.heap.size/\(lv.ownBlock=some g->x.2=m/\∃ l c,x.1= .slice (some ⟨g,0,none⟩) l c/\l<=len)
 lo:B<=b
 ln:len<=1000
 base:W.grownBy w none
 wb:W.heap.size<=B
theorem nn{w w6:World}{o:Obj}{v:Value}{g6:Nat}(key:(v.ownBlock=some g6/\(w.alloc o).grownBy w6 (some g6))\/(g6=w.heap.size+1/\(w.alloc o).grownBy w6 none)):
  ∃ r,w.grownBy w6 r/\(∀ g,r=some g->v.ownBlock=some g)/\(∀ g,g<w.heap.size->v.ownBlock≠some g->g6≠g)/\(∀ g,g<w.heap.size->v.ownBlock≠some g->w6.heap[g]?=w.heap[g]?)/\w.heap.size<=w6.heap.size:=by
 rcases key with ⟨e,hg⟩ | ⟨e,hg⟩
 ·have b:w.grownBy w6 (some g6):=il (iq (ir _ _)) hg;exact⟨some g6,b,fun g e2=>(by rw [e,e2]),fun g _ h2 e3=>h2 (by rw [e,e3]),fun g h1 h2=>b.block g h1 (fun e3=>h2 (by rw [e,e3])),b.size⟩
 ·have b:w.grownBy w6 none:=il (iq (ir _ _)) hg;exact⟨none,b,fun g e2=>(by cases e2),fun g h1 _ e3=>(by omega),fun g h1 _=>b.block g h1 (by simp),b.size⟩
theorem Kept.same{w w':World}{x:Value × Int}(h:Kept w x)(a:∀ g,x.1.ownBlock=some g->w'.heap[g]?=w.heap[g]?):Kept w' x:=by
 rcases h with h | ⟨g,len,cap,e,hl,hc⟩
 ·exact Or.inl h
 ·refine Or.inr ⟨g,len,cap,e,hl,fun k hk=>?_⟩;rw [World.cell?_of_block (a g (by rw [e];rfl))];exact hc k hk
theorem iI{w w':World}{base:Nat}{e:TypeId}{b:Nat}{v:Value}{n:Nat}{xs:List Value}(h:w.ownsRow base e b v n xs)(d:∀ g,v.ownBlock=some g->w'.heap[g]?=w.heap[g]?):w'.ownsRow base e b v n xs:=by
 obtain⟨c,a⟩:=h;refine⟨c,?_⟩;rcases a with a | ⟨g,cap,cur,hv,hbb,hh,rest⟩
 ·exact Or.inl a
 ·exact Or.inr ⟨g,cap,cur,hv,hbb,by rw [d g (by rw [hv];rfl)];exact hh,rest⟩
theorem oh{W w w6:World}{r:Option Nat}{v:Value}{B:Nat}(h:W.grownBy w none)(hB:W.heap.size<=B)(hg:w.grownBy w6 r)(hr:∀ g,r=some g->v.ownBlock=some g)(hv:∀ g,v.ownBlock=some g->B<=g):W.grownBy w6 none:=
 ⟨hg.os.trans h.os,hg.tape.trans h.tape,hg.output.trans h.output,Nat.le_trans h.size hg.size,fun k hk _=>by
  rw [hg.block k (Nat.lt_of_lt_of_le hk h.size) (fun e=>by have:=hv k (hr k e.symm);omega)];exact h.block k hk (by simp)⟩
section
variable {W : World} {B : Nat} {w : World} {b : Nat} {n m : Int} {ov mv lv : Value} {len : Nat} {K : List (Value × Int)} {M : List Int}
theorem KS.out(s:KS W B w b n m ov mv lv len K M){w6:World}{o:Obj}{g6 c6:Nat}(E:w6.ownsRow B 39 1 (.slice (some ⟨g6,0,none⟩) (K.length+1) c6) (K.length+1) (K.map (·.1)++[lv]))
  (key:(ov.ownBlock=some g6/\(w.alloc o).grownBy w6 (some g6))\/(g6=w.heap.size+1/\(w.alloc o).grownBy w6 none)):
  KS W B (w6.setCell ⟨b,6,none⟩ (.slice (some ⟨g6,0,none⟩) (K.length+1) c6)) b n m (.slice (some ⟨g6,0,none⟩) (K.length+1) c6) mv lv len (K++[(lv,m)]) M:=by
 obtain⟨r,D,F,i,A,hsz⟩:=nn key;have u:=s.h.lt;have v:g6≠b:=i b u s.ob;have q:∀ g,g<w.heap.size->ov.ownBlock≠some g->g≠b->(w6.setCell ⟨b,6,none⟩ (.slice (some ⟨g6,0,none⟩) (K.length+1) c6)).heap[g]?=w.heap[g]?:=fun g d f j=>by
  rw [Below.heap_setCell _ _ _ _ (by simpa using j)];exact A g d f
 have z:=iP s.mrow;have p:=iP s.lrow;refine⟨?_,?_,iI s.mrow (fun g e=>q g (z g e) (fun a=>s.om g a e) (fun a=>s.mb (by rw [e,a]))),iI s.lrow (fun g e=>q g (p g e) (fun a=>s.ol g a e) (fun a=>s.lb (by rw [e,a]))),
  by simpa [Value.ownBlock]using v,s.mb,s.lb,?_,?_,s.ml,?_,s.lo,s.ln,?_,s.wb⟩
 ·refine HAt.set6 (ov:=ov) ?_ _;have:=s.h;unfold HAt at*;rw [A b u s.ob];exact this
 ·refine ownsRow_setCell_other ?_ (by simpa [Value.ownBlock]using v) _;simpa using E
 ·intro g e a;simp only [Value.ownBlock,Option.some.injEq]at e;exact i g (z g a) (fun e3=>s.om g e3 a) e
 ·intro g e a;simp only [Value.ownBlock,Option.some.injEq]at e;exact i g (p g a) (fun e3=>s.ol g e3 a) e
 ·intro x c;rcases List.mem_append.1 c with c | c
  ·obtain⟨k1,k2⟩:=s.kept x c;refine⟨k1.same (fun g e=>by obtain⟨d,f,j,t,_⟩:=k2 g e;exact q g t f d),fun g e=>?_⟩;obtain⟨d,f,j,t,C⟩:=k2 g e;exact⟨d,by simpa [Value.ownBlock]using i g t f,j,by simp;omega,C⟩
  ·simp at c;subst c;refine⟨?_,fun g e=>⟨fun a=>s.lb (by rw [<-a];exact e),by simpa [Value.ownBlock]using i g (p g e) (fun e3=>s.ol g e3 e),fun e3=>s.ml g e3 e,by have:=p g e;simp;omega,fun _=>⟨rfl,?_⟩⟩⟩
   ·rcases s.lrow.2 with ⟨e,_⟩ | ⟨g,cap,cur,hv,hbb,hh,hc1,hc2,hc3,hc4⟩
    ·exact Or.inl e
    ·refine Or.inr ⟨g,len,cap,hv,s.ln,fun k hk=>?_⟩;have y:=s.lrow;rw [hv]at y;rw [World.cell?_of_block (q g (Array.getElem?_eq_some_iff.1 hh).1 (fun e3=>s.ol g e3 (by rw [hv];rfl)) (fun e3=>s.lb (by rw [hv,<-e3];rfl))),y.cellAt k (by omega)];simp [hk]
   ·rcases s.lrow.2 with ⟨a,_⟩ | ⟨g',cap,cur,hv,_⟩
    ·rw [a]at e;cases e
    ·rw [hv]at e;simp only [Value.ownBlock,Option.some.injEq]at e;exact⟨len,cap,by rw [hv,e],Nat.le_refl _⟩
 ·exact iD (oh s.base s.wb D F (iA s.orow)) (by have:=s.lo;have:=s.wb;omega)
theorem KS.mark(s:KS W B w b n m ov mv lv len K M){w6:World}{o:Obj}{g6 c6:Nat}(z:w6.ownsRow B 3 1 (.slice (some ⟨g6,0,none⟩) (M.length+1) c6) (M.length+1) (ints M++[.int .i64 m]))
  (key:(mv.ownBlock=some g6/\(w.alloc o).grownBy w6 (some g6))\/(g6=w.heap.size+1/\(w.alloc o).grownBy w6 none)):
  KS W B (w6.setCell ⟨b,7,none⟩ (.slice (some ⟨g6,0,none⟩) (M.length+1) c6)) b n m ov (.slice (some ⟨g6,0,none⟩) (M.length+1) c6) lv len K (M++[m]):=by
 obtain⟨r,y,A,i,u,hsz⟩:=nn key;have l:=s.h.lt;have p:g6≠b:=i b l s.mb;have k:∀ g,g<w.heap.size->mv.ownBlock≠some g->g≠b->(w6.setCell ⟨b,7,none⟩ (.slice (some ⟨g6,0,none⟩) (M.length+1) c6)).heap[g]?=w.heap[g]?:=fun g c f d=>by
  rw [Below.heap_setCell _ _ _ _ (by simpa using d)];exact u g c f
 have t:=iP s.orow;have q:=iP s.lrow;refine⟨?_,iI s.orow (fun g e=>k g (t g e) (fun a=>s.om g e a) (fun a=>s.ob (by rw [e,a]))),?_,iI s.lrow (fun g e=>k g (q g e) (fun a=>s.ml g a e) (fun a=>s.lb (by rw [e,a]))),
  s.ob,by simpa [Value.ownBlock]using p,s.lb,?_,s.ol,?_,?_,s.lo,s.ln,?_,s.wb⟩
 ·refine HAt.set7 (mv:=mv) ?_ _;have:=s.h;unfold HAt at*;rw [u b l s.mb];exact this
 ·refine ownsRow_setCell_other ?_ (by simpa [Value.ownBlock]using p) _;simpa [ints]using z
 ·intro g e a;simp only [Value.ownBlock,Option.some.injEq]at a;exact i g (t g e) (fun e3=>s.om g e e3) a
 ·intro g e a;simp only [Value.ownBlock,Option.some.injEq]at e;exact i g (q g a) (fun e3=>s.ml g e3 a) e
 ·intro x C;obtain⟨k1,k2⟩:=s.kept x C;refine⟨k1.same (fun g e=>by obtain⟨c,f,d,j,_⟩:=k2 g e;exact k g j d c),fun g e=>?_⟩;obtain⟨c,f,d,j,v⟩:=k2 g e;exact⟨c,f,by simpa [Value.ownBlock]using i g j d,by simp;omega,v⟩
 ·exact iD (oh s.base s.wb y A (iA s.mrow)) (by have:=s.lo;have:=s.wb;omega)
theorem KS.list(s:KS W B w b n m ov mv lv len K M)(I:len+1<=1000){w6:World}{o:Obj}{g6 c6:Nat}(L:w6.ownsRow B 3 1 (.slice (some ⟨g6,0,none⟩) (len+1) c6) (len+1) (List.replicate len (.int .i64 m)++[.int .i64 m]))
  (key:(lv.ownBlock=some g6/\(w.alloc o).grownBy w6 (some g6))\/(g6=w.heap.size+1/\(w.alloc o).grownBy w6 none)):
  KS W B w6 b n m ov mv (.slice (some ⟨g6,0,none⟩) (len+1) c6) (len+1) K M:=by
 obtain⟨r,G,N,j,p,hsz⟩:=nn key;have A:=s.h.lt;have H:g6≠b:=j b A s.lb;have D:=iP s.orow;have C:=iP s.mrow;have E:w6.ownsRow B 3 1 (.slice (some ⟨g6,0,none⟩) (len+1) c6) (len+1) (List.replicate (len+1) (.int .i64 m)):=by rw [List.replicate_succ'];exact L
 refine⟨?_,iI s.orow (fun g e=>p g (D g e) (s.ol g e)),iI s.mrow (fun g e=>p g (C g e) (s.ml g e)),E,s.ob,s.mb,by simpa [Value.ownBlock]using H,s.om,?_,?_,?_,s.lo,I,?_,s.wb⟩
 ·have:=s.h;unfold HAt at*;rw [p b A s.lb];exact this
 ·intro g e a;simp only [Value.ownBlock,Option.some.injEq]at a;exact j g (D g e) (s.ol g e) a
 ·intro g e a;simp only [Value.ownBlock,Option.some.injEq]at a;exact j g (C g e) (s.ml g e) a
 ·intro x P;obtain⟨k1,k2⟩:=s.kept x P;refine⟨?_,fun g e=>?_⟩
  ·rcases k1 with k1 | ⟨g,l,c,e,hl1,hc⟩
   ·exact Or.inl k1
   ·obtain⟨v,y,z,i,q⟩:=k2 g (by rw [e];rfl);refine Or.inr ⟨g,l,c,e,hl1,fun k hk=>?_⟩;by_cases d:lv.ownBlock=some g
    ·obtain⟨t,F,u,f,J⟩:=q d;rw [e]at f;simp only [Value.slice.injEq,true_and]at f;rcases key with ⟨a,_⟩ | ⟨a,hg2⟩
     ·have:g6=g:=by rw [d]at a;exact(Option.some.inj a).symm
      subst this;rw [E.cellAt k (by omega),t,List.getElem?_replicate,if_pos (by omega)]
     ·have O:w.grownBy w6 none:=il (iq (ir _ _)) hg2;rw [World.cell?_of_block (O.block g i (by simp))];exact hc k hk
    ·rw [World.cell?_of_block (p g i d)];exact hc k hk
  ·obtain⟨v,y,z,i,q⟩:=k2 g e;refine⟨v,y,z,by omega,fun a=>?_⟩;simp only [Value.ownBlock,Option.some.injEq]at a;by_cases d:lv.ownBlock=some g
   ·obtain⟨t,F,u,f,J⟩:=q d;exact⟨t,F,u,f,by omega⟩
   ·exact absurd a (j g i d)
 ·exact oh s.base s.wb G N (iA s.lrow)
end
end
section
open Go.RowKit
structure Role where
 k:Nat
 c:Nat
abbrev Role.other:Role:=⟨0,0⟩
abbrev Role.hands:Role:=⟨1,0⟩
abbrev Role.lst(c:Nat):Role:=⟨2,c⟩
abbrev Role.mrk(c:Nat):Role:=⟨3,c⟩
abbrev Role.kept:Role:=⟨4,0⟩
abbrev Role.cur:Role:=⟨5,0⟩
abbrev Role.lrow(c:Nat):Role:=⟨6,c⟩
abbrev Role.lent:Role:=⟨7,0⟩
def Role.lends(r:Role):Bool:=r.k==6 || r.k==7
def hcl(f:Nat->Value):Array Value:= #[f 0,f 1,f 2,f 3,f 4,f 5,f 6,f 7,f 8,f 9,f 10,f 11,f 12,f 13,f 14,f 15]
def setF(f:Nat->Value)(o:Nat)(v:Value):Nat->Value:=fun k=>if k=o then v else f k
theorem jM(f:Nat->Value)(o:Nat)(v:Value):setF f o v o=v:=by simp [setF]
theorem iN(f:Nat->Value){o k:Nat}(v:Value)(h:k≠o):setF f o v k=f k:=by simp [setF,h]
theorem Ce{o:Nat}(h:o<16):o=0\/o=1\/o=2\/o=3\/o=4\/o=5\/o=6\/o=7\/o=8\/o=9\/o=10\/o=11\/o=12\/o=13\/o=14\/o=15:=by omega
theorem Ai(f:Nat->Value){o:Nat}(h:o<16):(hcl f)[o]?=some (f o):=by
 rcases Ce h with rfl | rfl | rfl | rfl | rfl | rfl | rfl | rfl | rfl | rfl | rfl | rfl | rfl | rfl | rfl | rfl<;>rfl
theorem Aj(f:Nat->Value){o:Nat}(v:Value)(h:o<16):(hcl f).setIfInBounds o v=hcl (setF f o v):=by
 rcases Ce h with rfl | rfl | rfl | rfl | rfl | rfl | rfl | rfl | rfl | rfl | rfl | rfl | rfl | rfl | rfl | rfl<;>rfl
def HB(w:World)(b:Nat)(f:Nat->Value):Prop:=w.heap[b]?=some (.cells (hcl f) 45 (0,0))
theorem HB.cell{w:World}{b:Nat}{f:Nat->Value}(h:HB w b f){o:Nat}(a:o<16):w.cell? ⟨b,o,none⟩=some (f o):=by
 unfold HB at h;simp only [World.cell?,h];exact Ai f a
theorem HB.frozen{w:World}{b:Nat}{f:Nat->Value}(h:HB w b f)(o:Nat):w.frozen? ⟨b,o,none⟩=false:=by
 unfold HB at h;simp [World.frozen?,h]
theorem HB.lt{w:World}{b:Nat}{f:Nat->Value}(h:HB w b f):b<w.heap.size:=(Array.getElem?_eq_some_iff.1 h).1
theorem HB.set{w:World}{b:Nat}{f:Nat->Value}(h:HB w b f){o:Nat}(a:o<16)(v:Value):HB (w.setCell ⟨b,o,none⟩ v) b (setF f o v):=by
 unfold HB at*;rw [heap_setCell_same w b o _ _ v h,Aj f v a]
theorem HB.same{w w':World}{b:Nat}{f:Nat->Value}(h:HB w b f)(e:w'.heap[b]?=w.heap[b]?):HB w' b f:=by unfold HB at*;rw [e];exact h
def tlC:Nat->TypeId
 | 0=>39
 | 1=>27
 | 2=>29
 | 3=>66
 | _=>35
def teC:Nat->TypeId
 | 0=>3
 | 1=>76
 | 2=>28
 | 3=>65
 | _=>66
def elC(m:Int):Nat->List Value
 | 0=>[.int .i64 m]
 | 1=>[.int .i64 m,.int .i64 0]
 | 2=>[.int .i64 m,.int .i64 1,.int .i64 2,.int .i64 3]
 | 3=>[.int .i64 m,.int .i64 0,.int .i64 0,.int .i64 0]
 | _=>[]
def KeptIn(w:World)(who:Nat->Role)(g len:Nat)(m:Int)(c:Nat):Prop:=
 if c=4 then ∀ k,k<len->∃ g' cap',w.cell? ⟨g,k,none⟩=some (.slice (some ⟨g',0,none⟩) 1 cap')/\w.heap[g']?=some (.cells (elC m 3).toArray 65 (0,0))/\who g'= .kept
 else ∀ k,k<len->∀ j u,(elC m c)[j]?=some u->w.cell? ⟨g,k*(elC m c).length+j,none⟩=some u
theorem kl{w:World}{who:Nat->Role}{g len:Nat}{m:Int}:KeptIn w who g len m 4↔∀ k,k<len->∃ g' cap',w.cell? ⟨g,k,none⟩=some (.slice (some ⟨g',0,none⟩) 1 cap')/\w.heap[g']?=some (.cells (elC m 3).toArray 65 (0,0))/\who g'= .kept:=by
 unfold KeptIn;rw [if_pos rfl]
theorem jX{w:World}{who:Nat->Role}{g len:Nat}{m:Int}{c:Nat}(h:c≠4):KeptIn w who g len m c↔∀ k,k<len->∀ j u,(elC m c)[j]?=some u->w.cell? ⟨g,k*(elC m c).length+j,none⟩=some u:=by
 unfold KeptIn;rw [if_neg h]
def KeptC(c:Nat)(w:World)(who:Nat->Role)(x:Value × Int):Prop:=
 x.1= .slice none 0 0\/∃ g len cap,x.1= .slice (some ⟨g,0,none⟩) len cap/\len<=1000/\KeptIn w who g len x.2 c
structure Hs(B:Nat)(w:World)(b:Nat)(who:Nat->Role)(n:Int)(f:Nat->Value)(K:Nat->List (Value × Int))(M:Nat->List Int):Prop where
 blk:HB w b f
 cnt:f 5= .int .i64 n
 lst:∀ c,c<5->w.ownsRow B (tlC c) 1 (f (6+2*c)) (K c).length ((K c).map (·.1))
 mrk:∀ c,c<5->w.ownsRow B 3 1 (f (7+2*c)) (M c).length (ints (M c))
 wl:∀ c,c<5->∀ g,(f (6+2*c)).ownBlock=some g->who g= .lst c
 wm:∀ c,c<5->∀ g,(f (7+2*c)).ownBlock=some g->who g= .mrk c
 wb:who b= .hands
 kept:∀ c,c<5->∀ x∈K c,KeptC c w who x/\∀ g,x.1.ownBlock=some g->who g= .kept\/who g= .cur
 dom:∀ g,who g≠ .other->B<=g/\g<w.heap.size
theorem km{w w':World}{who:Nat->Role}{g len:Nat}{m:Int}{c:Nat}(h:KeptIn w who g len m c)(e:w'.heap[g]?=w.heap[g]?)(n:∀ g,who g= .kept->w'.heap[g]?=w.heap[g]?):KeptIn w' who g len m c:=by
 by_cases hc:c=4
 ·subst hc;rw [kl]at*;intro k a;obtain⟨b,f,i,l,d⟩:=h k a;exact⟨b,f,by rw [World.cell?_of_block e];exact i,by rw [n b d];exact l,d⟩
 ·rw [jX hc]at*;intro k a j u o;rw [World.cell?_of_block e];exact h k a j u o
theorem KeptC.same{w w':World}{who:Nat->Role}{c:Nat}{x:Value × Int}(h:KeptC c w who x)(b:∀ g,x.1.ownBlock=some g->who g= .kept\/who g= .cur)(a:∀ g,who g= .kept\/who g= .cur->w'.heap[g]?=w.heap[g]?):KeptC c w' who x:=by
 rcases h with h | ⟨g,len,cap,e,hl,hc⟩
 ·exact Or.inl h
 ·exact Or.inr ⟨g,len,cap,e,hl,km hc (a g (b g (by rw [e];rfl))) (fun g e=>a g (Or.inl e))⟩
theorem t7{w:World}{who b:Nat->Role}{g len:Nat}{m:Int}{c:Nat}(h:KeptIn w who g len m c)(j:∀ g,who g= .kept->b g= .kept):KeptIn w b g len m c:=by
 by_cases hc:c=4
 ·subst hc;rw [kl]at*;intro k l;obtain⟨a,d,e,f,i⟩:=h k l;exact⟨a,d,e,f,j a i⟩
 ·rw [jX hc]at*;exact h
theorem KeptC.who{w:World}{who a:Nat->Role}{c:Nat}{x:Value × Int}(h:KeptC c w who x)(b:∀ g,who g= .kept->a g= .kept):KeptC c w a x:=by
 rcases h with h | ⟨g,len,cap,e,hl,hc⟩
 ·exact Or.inl h
 ·exact Or.inr ⟨g,len,cap,e,hl,t7 hc b⟩
section
variable {B : Nat} {w w' : World} {b : Nat} {who who' : Nat -> Role} {n : Int} {f : Nat -> Value} {K : Nat -> List (Value × Int)} {M : Nat -> List Int}
theorem Hs.same(h:Hs B w b who n f K M)(hs:w.heap.size<=w'.heap.size)(d:∀ g,g<w.heap.size->who g≠ .other->(who g).lends=false->w'.heap[g]?=w.heap[g]?):Hs B w' b who n f K M:=by
 have a:∀ g,who g≠ .other->(who g).lends=false->w'.heap[g]?=w.heap[g]?:=fun g h1 h2=>d g (h.dom g h1).2 h1 h2
 have i:∀ g,who g= .kept\/who g= .cur->w'.heap[g]?=w.heap[g]?:=fun g e=>by
  rcases e with e | e<;>exact a g (by rw [e];simp) (by rw [e];rfl)
 refine⟨h.blk.same (a b (by rw [h.wb];simp) (by rw [h.wb];rfl)),h.cnt,fun c hc=>iI (h.lst c hc) (fun g e=>?_),fun c hc=>iI (h.mrk c hc) (fun g e=>?_),h.wl,h.wm,h.wb,fun c hc x hx=>?_,fun g e=>?_⟩
 ·have:=h.wl c hc g e;exact a g (by rw [this];simp) (by rw [this];rfl)
 ·have:=h.wm c hc g e;exact a g (by rw [this];simp) (by rw [this];rfl)
 ·obtain⟨k1,k2⟩:=h.kept c hc x hx;exact⟨k1.same k2 i,k2⟩
 ·have:=h.dom g e;exact⟨this.1,by omega⟩
theorem Hs.grown(h:Hs B w b who n f K M)(hg:w.grownBy w' none):Hs B w' b who n f K M:=h.same hg.size (fun g hg1 _ _=>hg.block g hg1 (by simp))
theorem Hs.like(h:Hs B w b who n f K M)(hl:Like w' w):Hs B w' b who n f K M:=h.grown (iH hl)
theorem Hs.more(h:Hs B w b who n f K M)(a:∀ g,who g≠ .other->who' g=who g)(d:∀ g,who' g≠ .other->B<=g/\g<w.heap.size):Hs B w b who' n f K M:=by
 have i:∀ g,who g= .kept\/who g= .cur->who' g= .kept\/who' g= .cur:=fun g e=>by
  have:who' g=who g:=a g (by rcases e with e | e<;>rw [e]<;>simp);rw [this];exact e
 refine⟨h.blk,h.cnt,h.lst,h.mrk,fun c hc g e=>?_,fun c hc g e=>?_,?_,fun c hc x hx=>?_,d⟩
 ·have:=h.wl c hc g e;rw [a g (by rw [this];simp),this]
 ·have:=h.wm c hc g e;rw [a g (by rw [this];simp),this]
 ·rw [a b (by rw [h.wb];simp),h.wb]
 ·obtain⟨k1,k2⟩:=h.kept c hc x hx;exact⟨k1.who (fun g e=>by rw [a g (by rw [e];simp)];exact e),fun g e=>i g (k2 g e)⟩
theorem Hs.setLent(h:Hs B w b who n f K M){o:Nat}(ho:o<5)(v:Value):Hs B (w.setCell ⟨b,o,none⟩ v) b who n (setF f o v) K M:=by
 have a:∀ g,who g≠ .hands->(w.setCell ⟨b,o,none⟩ v).heap[g]?=w.heap[g]?:=fun g e=>Below.heap_setCell _ _ _ _ (by intro d;simp only at d;rw [d]at e;exact e h.wb)
 have i:∀ g,who g= .kept\/who g= .cur->(w.setCell ⟨b,o,none⟩ v).heap[g]?=w.heap[g]?:=fun g e=>a g (by rcases e with e | e<;>rw [e]<;>simp)
 refine⟨h.blk.set (by omega) v,by rw [iN _ _ (by omega)];exact h.cnt,fun c hc=>?_,fun c hc=>?_,fun c hc=>?_,fun c hc=>?_,h.wb,fun c hc x hx=>?_,fun g e=>?_⟩
 ·rw [iN _ _ (by omega)];exact iI (h.lst c hc) (fun g e=>a g (by rw [h.wl c hc g e];simp))
 ·rw [iN _ _ (by omega)];exact iI (h.mrk c hc) (fun g e=>a g (by rw [h.wm c hc g e];simp))
 ·rw [iN _ _ (by omega)];exact h.wl c hc
 ·rw [iN _ _ (by omega)];exact h.wm c hc
 ·obtain⟨k1,k2⟩:=h.kept c hc x hx;exact⟨k1.same k2 i,k2⟩
 ·have:=h.dom g e;exact⟨this.1,by simpa using this.2⟩
theorem Hs.setCnt(h:Hs B w b who n f K M)(m:Int):Hs B (w.setCell ⟨b,5,none⟩ (.int .i64 m)) b who m (setF f 5 (.int .i64 m)) K M:=by
 have a:∀ g,who g≠ .hands->(w.setCell ⟨b,5,none⟩ (.int .i64 m)).heap[g]?=w.heap[g]?:=fun g e=>Below.heap_setCell _ _ _ _ (by intro d;simp only at d;rw [d]at e;exact e h.wb)
 have i:∀ g,who g= .kept\/who g= .cur->(w.setCell ⟨b,5,none⟩ (.int .i64 m)).heap[g]?=w.heap[g]?:=fun g e=>a g (by rcases e with e | e<;>rw [e]<;>simp)
 refine⟨h.blk.set (by omega) _,jM _ _ _,fun c hc=>?_,fun c hc=>?_,fun c hc=>?_,fun c hc=>?_,h.wb,fun c hc x hx=>?_,fun g e=>?_⟩
 ·rw [iN _ _ (by omega)];exact iI (h.lst c hc) (fun g e=>a g (by rw [h.wl c hc g e];simp))
 ·rw [iN _ _ (by omega)];exact iI (h.mrk c hc) (fun g e=>a g (by rw [h.wm c hc g e];simp))
 ·rw [iN _ _ (by omega)];exact h.wl c hc
 ·rw [iN _ _ (by omega)];exact h.wm c hc
 ·obtain⟨k1,k2⟩:=h.kept c hc x hx;exact⟨k1.same k2 i,k2⟩
 ·have:=h.dom g e;exact⟨this.1,by simpa using this.2⟩
end
def setW(who:Nat->Role)(g:Nat)(r:Role):Nat->Role:=fun k=>if k=g then r else who k
theorem iY(who:Nat->Role)(g:Nat)(r:Role):setW who g r g=r:=by simp [setW]
theorem iJ(who:Nat->Role){g k:Nat}(r:Role)(h:k≠g):setW who g r k=who k:=by simp [setW,h]
def setK(K:Nat->List (Value × Int))(c:Nat)(l:List (Value × Int)):Nat->List (Value × Int):=fun k=>if k=c then l else K k
theorem kN(K:Nat->List (Value × Int))(c:Nat)(l:List (Value × Int)):setK K c l c=l:=by simp [setK]
theorem kO(K:Nat->List (Value × Int)){c k:Nat}(l:List (Value × Int))(h:k≠c):setK K c l k=K k:=by simp [setK,h]
def setM(M:Nat->List Int)(c:Nat)(l:List Int):Nat->List Int:=fun k=>if k=c then l else M k
theorem vc(M:Nat->List Int)(c:Nat)(l:List Int):setM M c l c=l:=by simp [setM]
theorem vd(M:Nat->List Int){c k:Nat}(l:List Int)(h:k≠c):setM M c l k=M k:=by simp [setM,h]
def marksOf(K:Nat->List (Value × Int)):Nat->List Int:=fun c=>(K c).map (·.2)
structure Fr(w w':World)(who who':Nat->Role)(ex:Nat->Prop):Prop where
 os:w'.os=w.os
 tape:w'.tape=w.tape
 output:w'.output=w.output
 size:w.heap.size<=w'.heap.size
 oth:∀ g,g<w.heap.size->who g= .other->¬ex g->w'.heap[g]?=w.heap[g]?/\who' g= .other
theorem Fr.refl(w:World)(who:Nat->Role)(ex:Nat->Prop):Fr w w who who ex:=⟨rfl,rfl,rfl,Nat.le_refl _,fun _ _ h _=>⟨rfl,h⟩⟩
theorem Fr.trans{w w1 w2:World}{who who1 who2:Nat->Role}{ex:Nat->Prop}(h:Fr w w1 who who1 ex)(h':Fr w1 w2 who1 who2 ex):Fr w w2 who who2 ex:=
 ⟨h'.os.trans h.os,h'.tape.trans h.tape,h'.output.trans h.output,Nat.le_trans h.size h'.size,fun g h1 h2 h3=>by
  obtain⟨a,b⟩:=h.oth g h1 h2 h3;obtain⟨c,d⟩:=h'.oth g (Nat.lt_of_lt_of_le h1 h.size) b h3;exact⟨c.trans a,d⟩⟩
theorem Fr.mono{w w':World}{who who':Nat->Role}{ex ex':Nat->Prop}(h:Fr w w' who who' ex)(he:∀ g,ex g->ex' g):Fr w w' who who' ex':=
 ⟨h.os,h.tape,h.output,h.size,fun g h1 h2 h3=>h.oth g h1 h2 (fun e=>h3 (he g e))⟩
theorem Fr.grown{w w':World}{who:Nat->Role}{ex:Nat->Prop}(h:w.grownBy w' none):Fr w w' who who ex:=⟨h.os,h.tape,h.output,h.size,fun g h1 h2 _=>⟨h.block g h1 (by simp),h2⟩⟩
theorem Fr.like{w w':World}{who:Nat->Role}{ex:Nat->Prop}(h:Like w' w):Fr w w' who who ex:=Fr.grown (iH h)
theorem Fr.set{w:World}{who:Nat->Role}{ex:Nat->Prop}{g o:Nat}{v:Value}(h:who g≠ .other\/ex g):Fr w (w.setCell ⟨g,o,none⟩ v) who who ex:=
 ⟨rfl,rfl,rfl,by simp,fun k _ h2 h3=>⟨Below.heap_setCell _ _ _ _ (fun e=>by simp only at e;subst e;rcases h with h | h;exact h h2;exact h3 h),h2⟩⟩
theorem Fr.setW{w w':World}{who who':Nat->Role}{ex:Nat->Prop}{g:Nat}{r:Role}(h:Fr w w' who who' ex)(hg:w.heap.size<=g\/who' g≠ .other\/ex g):Fr w w' who (setW who' g r) ex:=
 ⟨h.os,h.tape,h.output,h.size,fun k h1 h2 h3=>by
  obtain⟨a,b⟩:=h.oth k h1 h2 h3;refine⟨a,?_⟩;rw [iJ]
  ·exact b
  ·intro e;subst e
   rcases hg with hg | hg | hg
   ·omega
   ·exact hg b
   ·exact h3 hg⟩
theorem Fr.key{w w6:World}{who:Nat->Role}{d:Nat->Prop}{o:Obj}{v:Value}{g6:Nat}{r:Role}(c:∀ g,v.ownBlock=some g->who g≠ .other)(key:(v.ownBlock=some g6/\(w.alloc o).grownBy w6 (some g6))\/(g6=w.heap.size+1/\(w.alloc o).grownBy w6 none)):
  Fr w w6 who (Go.Proofs.YtklenjmfalljgabGreatDoor.setW who g6 r) d:=by
 rcases key with ⟨e,hg⟩ | ⟨e,hg⟩
 ·have b:w.grownBy w6 (some g6):=il (iq (ir _ _)) hg;refine Fr.setW ⟨b.os,b.tape,b.output,b.size,fun k h1 h2 _=>⟨b.block k h1 (fun e2=>?_),h2⟩⟩ (Or.inr (Or.inl (c g6 e)));simp only [Option.some.injEq]at e2;subst e2;exact c _ e h2
 ·exact Fr.setW (Fr.grown (il (iq (ir _ _)) hg)) (Or.inl (by omega))
theorem Fr.base{W w w':World}{who f:Nat->Role}{b:Nat->Prop}{B:Nat}(h:Fr w w' who f b)(a:W.grownBy w none)(hB:W.heap.size<=B)(c:∀ g,who g≠ .other->B<=g)(d:∀ g,b g->W.heap.size<=g):W.grownBy w' none:=
 ⟨h.os.trans a.os,h.tape.trans a.tape,h.output.trans a.output,Nat.le_trans a.size h.size,fun k hk _=>by
  have ho:who k= .other:=by
   by_cases e:who k= .other
   ·exact e
   ·exact absurd (c k e) (by omega)
  rw [(h.oth k (Nat.lt_of_lt_of_le hk a.size) ho (fun e=>by have:=d k e;omega)).1];exact a.block k hk (by simp)⟩
structure Cur(B:Nat)(w:World)(who:Nat->Role)(m:Int)(c:Nat)(lv:Value)(len:Nat)(K:Nat->List (Value × Int)):Prop where
 row:w.ownsRow B (teC c) (elC m c).length lv len (List.replicate len (elC m c)).flatten
 wc:∀ g,lv.ownBlock=some g->who g= .cur
 ent:∀ x∈K c,∀ g,x.1.ownBlock=some g->who g= .cur->x.2=m/\∃ l c',x.1= .slice (some ⟨g,0,none⟩) l c'/\(lv.ownBlock=some g->l<=len)
 oth:∀ c',c'<5->c'≠c->∀ x∈K c',∀ g,x.1.ownBlock=some g->who g= .kept
 ln:len<=1000
section
variable {B : Nat} {w w6 : World} {b : Nat} {who : Nat -> Role} {n m : Int} {f : Nat -> Value} {K : Nat -> List (Value × Int)} {M : Nat -> List Int} {c : Nat} {lv : Value} {len : Nat}
theorem jW(e:List Value)(k:Nat):((List.replicate k e).flatten).length=k*e.length:=by
 induction k with
 | zero=>simp
 | succ k ih=>rw [List.replicate_succ,List.flatten_cons,List.length_append,ih,Nat.succ_mul];omega
theorem qN(e:List Value)(n k j:Nat)(u:Value)(hk:k<n)(a:e[j]?=some u):((List.replicate n e).flatten)[k*e.length+j]?=some u:=by
 induction n generalizing k with
 | zero=>omega
 | succ n ih=>
  have b:=(List.getElem?_eq_some_iff.1 a).1;rw [List.replicate_succ,List.flatten_cons];cases k with
  | zero=>rw [Nat.zero_mul,Nat.zero_add,List.getElem?_append_left b];exact a
  | succ k=>
   rw [List.getElem?_append_right (by rw [Nat.succ_mul];omega),Nat.succ_mul];have:k*e.length+e.length+j - e.length=k*e.length+j:=by omega
   rw [this];exact ih k (by omega)
theorem jw(e:List Value)(n:Nat):(List.replicate n e).flatten++e=(List.replicate (n+1) e).flatten:=by
 rw [List.replicate_succ',List.flatten_append];simp
theorem Cur.keptNow(a:Cur B w who m c lv len K)(hc:c<4):KeptC c w who (lv,m):=by
 rcases a.row.2 with ⟨e,_⟩ | ⟨g,cap,cur,hv,hbb,hh,hrest⟩
 ·exact Or.inl e
 ·refine Or.inr ⟨g,len,cap,hv,a.ln,?_⟩;have b:=a.row;rw [hv]at b;have f:∀ k,k<len->∀ j u,(elC m c)[j]?=some u->w.cell? ⟨g,k*(elC m c).length+j,none⟩=some u:=fun k hk j u hu=>by
   have hjl:=(List.getElem?_eq_some_iff.1 hu).1;have d:(k+1)*(elC m c).length<=len*(elC m c).length:=Nat.mul_le_mul_right _ hk;rw [Nat.succ_mul]at d;rw [b.cellAt _ (by omega)];exact qN _ _ _ _ _ hk hu
  exact(jX (by omega)).2 f
theorem jp{v:Value}{o:Obj}{g6:Nat}(key:(v.ownBlock=some g6/\(w.alloc o).grownBy w6 (some g6))\/(g6=w.heap.size+1/\(w.alloc o).grownBy w6 none))(c:∀ g,who g≠ .other->g<w.heap.size){r:Role}(i:r≠ .other)(j:∀ g,v.ownBlock=some g->who g=r):
  w.heap.size<=w6.heap.size/\(∀ g,who g≠ .other->who g≠r->w6.heap[g]?=w.heap[g]?/\g6≠g)/\(∀ g,who g=r->g6≠g->w6.heap[g]?=w.heap[g]?)/\(g6<w.heap.size->who g6=r):=by
 rcases key with ⟨e,hg⟩ | ⟨e,hg⟩
 ·have b:w.grownBy w6 (some g6):=il (iq (ir _ _)) hg;have d:=j g6 e;refine⟨b.size,fun g h1 h2=>?_,fun g h1 h2=>b.block g (c g (by rw [h1];exact i)) (by simpa using fun e2=>h2 e2.symm),fun _=>d⟩;have f:g6≠g:=fun e2=>h2 (by rw [<-e2];exact d)
  exact⟨b.block g (c g h1) (by simpa using fun e2=>f e2.symm),f⟩
 ·have b:w.grownBy w6 none:=il (iq (ir _ _)) hg;refine⟨b.size,fun g h1 h2=>⟨b.block g (c g h1) (by simp),by have:=c g h1;omega⟩,fun g h1 h2=>b.block g (c g (by rw [h1];exact i)) (by simp),fun h=>by omega⟩
end
section
variable {B : Nat} {w w6 : World} {b : Nat} {who : Nat -> Role} {n m : Int} {f : Nat -> Value} {K : Nat -> List (Value × Int)} {M : Nat -> List Int} {c : Nat} {lv : Value} {len : Nat}
theorem Hs.push(h:Hs B w b who n f K M)(i:Cur B w who m c lv len K)(hc:c<4){o:Obj}{g6 c6:Nat}
  (y:w6.ownsRow B (tlC c) 1 (.slice (some ⟨g6,0,none⟩) ((K c).length+1) c6) ((K c).length+1) ((K c).map (·.1)++[lv]))
  (key:((f (6+2*c)).ownBlock=some g6/\(w.alloc o).grownBy w6 (some g6))\/(g6=w.heap.size+1/\(w.alloc o).grownBy w6 none)):
  Hs B (w6.setCell ⟨b,6+2*c,none⟩ (.slice (some ⟨g6,0,none⟩) ((K c).length+1) c6)) b (setW who g6 (.lst c)) n (setF f (6+2*c) (.slice (some ⟨g6,0,none⟩) ((K c).length+1) c6)) (setK K c (K c++[(lv,m)])) M/\
  Cur B (w6.setCell ⟨b,6+2*c,none⟩ (.slice (some ⟨g6,0,none⟩) ((K c).length+1) c6)) (setW who g6 (.lst c)) m c lv len (setK K c (K c++[(lv,m)])):=by
 have H:c<5:=by omega
 obtain⟨hsz,s,hsr,h6r⟩:=jp key (fun g e=>(h.dom g e).2) (r:= .lst c) (by simp) (h.wl c H);have F:g6≠b:=(s b (by rw [h.wb];simp) (by rw [h.wb];simp)).2;have G:HB w6 b f:=h.blk.same (s b (by rw [h.wb];simp) (by rw [h.wb];simp)).1;generalize D:Value.slice (some ⟨g6,0,none⟩) ((K c).length+1) c6=V at*;have q:V.ownBlock=some g6:=by rw [<-D];rfl
 have v:∀ g,who g≠ .other->who g≠ .lst c->g≠b->(w6.setCell ⟨b,6+2*c,none⟩ V).heap[g]?=w.heap[g]?:=fun g j k h3=>by
  rw [Below.heap_setCell _ _ _ _ (by simpa using h3)];exact(s g j k).1
 have p:∀ g,who g≠ .other->who g≠ .lst c->setW who g6 (.lst c) g=who g:=fun g j k=>iJ _ _ (fun e=>(s g j k).2 e.symm)
 have A:∀ g,who g= .kept\/who g= .cur->(w6.setCell ⟨b,6+2*c,none⟩ V).heap[g]?=w.heap[g]?:=fun g e=>v g (by rcases e with e | e<;>rw [e]<;>simp) (by rcases e with e | e<;>rw [e]<;>simp) (fun d=>by subst d;rw [h.wb]at e;rcases e with e | e<;>cases e)
 have u:∀ g,who g= .kept->setW who g6 (.lst c) g= .kept:=fun g e=>by rw [p g (by rw [e];simp) (by rw [e];simp)];exact e
 have t:∀ g,who g= .cur->setW who g6 (.lst c) g= .cur:=fun g e=>by rw [p g (by rw [e];simp) (by rw [e];simp)];exact e
 have E:∀ g,who g= .kept\/who g= .cur->setW who g6 (.lst c) g= .kept\/setW who g6 (.lst c) g= .cur:=fun g e=>e.imp (u g) (t g)
 have I:∀ g,setW who g6 (.lst c) g= .cur->who g= .cur:=fun g e=>by
  by_cases d:g=g6
  ·subst d;rw [iY]at e;cases e
  ·rwa [iJ _ _ d]at e
 have C:∀ c' x,c'<5->x∈K c'->KeptC c' (w6.setCell ⟨b,6+2*c,none⟩ V) (setW who g6 (.lst c)) x/\∀ g,x.1.ownBlock=some g->setW who g6 (.lst c) g= .kept\/setW who g6 (.lst c) g= .cur:=fun c' x hc' hx=>by
  obtain⟨k1,k2⟩:=h.kept c' hc' x hx;exact⟨(k1.same k2 A).who u,fun g e=>E g (k2 g e)⟩
 have J:(w6.setCell ⟨b,6+2*c,none⟩ V).ownsRow B (teC c) (elC m c).length lv len (List.replicate len (elC m c)).flatten:=iI i.row (fun g e=>A g (Or.inr (i.wc g e)));have z:Cur B (w6.setCell ⟨b,6+2*c,none⟩ V) (setW who g6 (.lst c)) m c lv len (setK K c (K c++[(lv,m)])):=by
  refine⟨J,fun g e=>t g (i.wc g e),fun x hx g e d=>?_,fun c' hc' hne x hx g e=>?_,i.ln⟩
  ·rw [kN]at hx;rcases List.mem_append.1 hx with hx | hx
   ·exact i.ent x hx g e (I g d)
   ·simp at hx;subst hx;refine⟨rfl,?_⟩;rcases i.row.2 with ⟨e3,_⟩ | ⟨g',cap,cur,hv,_⟩
    ·simp only at e;rw [e3]at e;cases e
    ·simp only at e;rw [hv]at e;simp only [Value.ownBlock,Option.some.injEq]at e;exact⟨len,cap,by rw [hv,e],fun _=>Nat.le_refl _⟩
  ·rw [kO _ _ hne]at hx;exact u g (i.oth c' hc' hne x hx g e)
 refine⟨⟨G.set (by omega) V,by rw [iN _ _ (by omega)];exact h.cnt,fun c' hc'=>?_,fun c' hc'=>?_,fun c' hc' g e=>?_,fun c' hc' g e=>?_,?_,fun c' hc' x hx=>?_,fun g e=>?_⟩,z⟩
 ·by_cases e:c'=c
  ·subst e;rw [jM,kN];have:=ownsRow_setCell_other (a:=⟨b,6+2*c',none⟩) y (show V.ownBlock≠some b by rw [q];simpa using F) V;simpa using this
  ·rw [iN _ _ (by omega),kO _ _ e];exact iI (h.lst c' hc') (fun g d=>v g (by rw [h.wl c' hc' g d];simp) (by rw [h.wl c' hc' g d];simpa using e) (fun e3=>by subst e3;have:=h.wl c' hc' g d;rw [h.wb]at this;cases this))
 ·rw [iN _ _ (by omega)];exact iI (h.mrk c' hc') (fun g d=>v g (by rw [h.wm c' hc' g d];simp) (by rw [h.wm c' hc' g d];simp) (fun e3=>by subst e3;have:=h.wm c' hc' g d;rw [h.wb]at this;cases this))
 ·by_cases d:c'=c
  ·subst d;rw [jM,q]at e;simp only [Option.some.injEq]at e;subst e;exact iY _ _ _
  ·rw [iN _ _ (by omega)]at e;have:=h.wl c' hc' g e;rw [p g (by rw [this];simp) (by rw [this];simpa using d),this]
 ·rw [iN _ _ (by omega)]at e;have:=h.wm c' hc' g e;rw [p g (by rw [this];simp) (by rw [this];simp),this]
 ·rw [p b (by rw [h.wb];simp) (by rw [h.wb];simp),h.wb]
 ·by_cases d:c'=c
  ·subst d;rw [kN]at hx;rcases List.mem_append.1 hx with hx | hx
   ·exact C c' x hc' hx
   ·simp at hx;subst hx;exact⟨z.keptNow hc,fun g e=>Or.inr (t g (i.wc g e))⟩
  ·rw [kO _ _ d]at hx;exact C c' x hc' hx
 ·by_cases d:g=g6
  ·subst d;have j:=iA y g q;have k:=iP y g q;exact⟨j,by simpa using k⟩
  ·rw [iJ _ _ d]at e;have:=h.dom g e;exact⟨this.1,by simp;omega⟩
theorem Hs.tell(h:Hs B w b who n f K M)(i:Cur B w who m c lv len K)(hc:c<4){o:Obj}{g6 c6:Nat}
  (u:w6.ownsRow B 3 1 (.slice (some ⟨g6,0,none⟩) ((M c).length+1) c6) ((M c).length+1) (ints (M c)++[.int .i64 m]))
  (key:((f (7+2*c)).ownBlock=some g6/\(w.alloc o).grownBy w6 (some g6))\/(g6=w.heap.size+1/\(w.alloc o).grownBy w6 none)):
  Hs B (w6.setCell ⟨b,7+2*c,none⟩ (.slice (some ⟨g6,0,none⟩) ((M c).length+1) c6)) b (setW who g6 (.mrk c)) n (setF f (7+2*c) (.slice (some ⟨g6,0,none⟩) ((M c).length+1) c6)) K (setM M c (M c++[m]))/\
  Cur B (w6.setCell ⟨b,7+2*c,none⟩ (.slice (some ⟨g6,0,none⟩) ((M c).length+1) c6)) (setW who g6 (.mrk c)) m c lv len K:=by
 have D:c<5:=by omega
 obtain⟨hsz,q,hsr,h6r⟩:=jp key (fun g e=>(h.dom g e).2) (r:= .mrk c) (by simp) (h.wm c D);have A:g6≠b:=(q b (by rw [h.wb];simp) (by rw [h.wb];simp)).2;have C:HB w6 b f:=h.blk.same (q b (by rw [h.wb];simp) (by rw [h.wb];simp)).1;generalize z:Value.slice (some ⟨g6,0,none⟩) ((M c).length+1) c6=V at*;have p:V.ownBlock=some g6:=by rw [<-z];rfl
 have t:∀ g,who g≠ .other->who g≠ .mrk c->g≠b->(w6.setCell ⟨b,7+2*c,none⟩ V).heap[g]?=w.heap[g]?:=fun g j k h3=>by
  rw [Below.heap_setCell _ _ _ _ (by simpa using h3)];exact(q g j k).1
 have l:∀ g,who g≠ .other->who g≠ .mrk c->setW who g6 (.mrk c) g=who g:=fun g j k=>iJ _ _ (fun e=>(q g j k).2 e.symm)
 have y:∀ g,who g= .kept\/who g= .cur->(w6.setCell ⟨b,7+2*c,none⟩ V).heap[g]?=w.heap[g]?:=fun g e=>t g (by rcases e with e | e<;>rw [e]<;>simp) (by rcases e with e | e<;>rw [e]<;>simp) (fun d=>by subst d;rw [h.wb]at e;rcases e with e | e<;>cases e)
 have s:∀ g,who g= .kept->setW who g6 (.mrk c) g= .kept:=fun g e=>by rw [l g (by rw [e];simp) (by rw [e];simp)];exact e
 have v:∀ g,who g= .cur->setW who g6 (.mrk c) g= .cur:=fun g e=>by rw [l g (by rw [e];simp) (by rw [e];simp)];exact e
 have E:∀ g,setW who g6 (.mrk c) g= .cur->who g= .cur:=fun g e=>by
  by_cases d:g=g6
  ·subst d;rw [iY]at e;cases e
  ·rwa [iJ _ _ d]at e
 refine⟨⟨C.set (by omega) V,by rw [iN _ _ (by omega)];exact h.cnt,fun c' hc'=>?_,fun c' hc'=>?_,fun c' hc' g e=>?_,fun c' hc' g e=>?_,?_,fun c' hc' x hx=>?_,fun g e=>?_⟩,
  ⟨iI i.row (fun g e=>y g (Or.inr (i.wc g e))),fun g e=>v g (i.wc g e),fun x hx g e d=>i.ent x hx g e (E g d),fun c' hc' hne x hx g e=>s g (i.oth c' hc' hne x hx g e),i.ln⟩⟩
 ·rw [iN _ _ (by omega)];exact iI (h.lst c' hc') (fun g d=>t g (by rw [h.wl c' hc' g d];simp) (by rw [h.wl c' hc' g d];simp) (fun e3=>by subst e3;have:=h.wl c' hc' g d;rw [h.wb]at this;cases this))
 ·by_cases e:c'=c
  ·subst e;rw [jM,vc];have:=ownsRow_setCell_other (a:=⟨b,7+2*c',none⟩) u (show V.ownBlock≠some b by rw [p];simpa using A) V;simpa [ints]using this
  ·rw [iN _ _ (by omega),vd _ _ e];exact iI (h.mrk c' hc') (fun g d=>t g (by rw [h.wm c' hc' g d];simp) (by rw [h.wm c' hc' g d];simpa using e) (fun e3=>by subst e3;have:=h.wm c' hc' g d;rw [h.wb]at this;cases this))
 ·rw [iN _ _ (by omega)]at e;have:=h.wl c' hc' g e;rw [l g (by rw [this];simp) (by rw [this];simp),this]
 ·by_cases d:c'=c
  ·subst d;rw [jM,p]at e;simp only [Option.some.injEq]at e;subst e;exact iY _ _ _
  ·rw [iN _ _ (by omega)]at e;have:=h.wm c' hc' g e;rw [l g (by rw [this];simp) (by rw [this];simpa using d),this]
 ·rw [l b (by rw [h.wb];simp) (by rw [h.wb];simp),h.wb]
 ·obtain⟨k1,k2⟩:=h.kept c' hc' x hx;exact⟨(k1.same k2 y).who s,fun g e=>(k2 g e).imp (s g) (v g)⟩
 ·by_cases d:g=g6
  ·subst d;have j:=iA u g p;have k:=iP u g p;exact⟨j,by simpa using k⟩
  ·rw [iJ _ _ d]at e;have:=h.dom g e;exact⟨this.1,by simp;omega⟩
theorem Hs.grow(h:Hs B w b who n f K M)(d:Cur B w who m c lv len K)(hc:c<4)(T:len+1<=1000){o:Obj}{g6 c6:Nat}
  (q:w6.ownsRow B (teC c) (elC m c).length (.slice (some ⟨g6,0,none⟩) (len+1) c6) (len+1) ((List.replicate len (elC m c)).flatten++elC m c))
  (key:(lv.ownBlock=some g6/\(w.alloc o).grownBy w6 (some g6))\/(g6=w.heap.size+1/\(w.alloc o).grownBy w6 none)):
  Hs B w6 b (setW who g6 .cur) n f K M/\Cur B w6 (setW who g6 .cur) m c (.slice (some ⟨g6,0,none⟩) (len+1) c6) (len+1) K:=by
 obtain⟨hsz,V,J,G⟩:=jp key (fun g e=>(h.dom g e).2) (r:= .cur) (by simp) d.wc;have p:∀ g,who g≠ .other->setW who g6 .cur g=who g:=fun g h1=>by
  by_cases e:g=g6
  ·subst e;rw [iY];exact(G (h.dom g h1).2).symm
  ·exact iJ _ _ e
 have O:∀ g,setW who g6 .cur g= .cur->g=g6\/who g= .cur:=fun g e=>by
  by_cases a:g=g6
  ·exact Or.inl a
  ·rw [iJ _ _ a]at e;exact Or.inr e
 have s:∀ g,who g≠ .other->who g≠ .cur->w6.heap[g]?=w.heap[g]?:=fun g h1 v=>(V g h1 v).1
 rw [jw]at q;have Q:∀ g,lv.ownBlock=some g->∀ k,k<len*(elC m c).length->w6.cell? ⟨g,k,none⟩=w.cell? ⟨g,k,none⟩:=fun g e k hk=>by
  by_cases a:g6=g
  ·subst a;rcases d.row.2 with ⟨i,_⟩ | ⟨g',cap,cur,hv,_⟩
   ·rw [i]at e;cases e
   ·have I:=d.row;rw [hv]at e;simp only [Value.ownBlock,Option.some.injEq]at e;subst e;rw [hv]at I;have y:k<(len+1)*(elC m c).length:=by rw [Nat.succ_mul];omega
    rw [q.cellAt k y,I.cellAt k hk,<-jw,List.getElem?_append_left (by rw [jW];exact hk)]
  ·exact World.cell?_of_block (J g (d.wc g e) a)
 have P:∀ g,who g= .cur->lv.ownBlock≠some g->w6.heap[g]?=w.heap[g]?:=fun g e a=>by
  by_cases i:g6=g
  ·subst i;rcases key with ⟨k1,_⟩ | ⟨k1,_⟩
   ·exact absurd k1 a
   ·have:=(h.dom g6 (by rw [e];simp)).2;omega
  ·exact J g e i
 have U:∀ c' x,c'<5->x∈K c'->KeptC c' w6 (setW who g6 .cur) x/\∀ g,x.1.ownBlock=some g->setW who g6 .cur g= .kept\/setW who g6 .cur g= .cur:=fun c' x hc' hx=>by
  obtain⟨k1,k2⟩:=h.kept c' hc' x hx;refine⟨?_,fun g e=>?_⟩
  ·refine KeptC.who (who:=who) ?_ (fun g e=>by rw [p g (by rw [e];simp)];exact e);rcases k1 with k1 | ⟨g,l,cap,e,hl,hin⟩
   ·exact Or.inl k1
   ·refine Or.inr ⟨g,l,cap,e,hl,?_⟩;have E:x.1.ownBlock=some g:=by rw [e];rfl
    have z:∀ g,who g= .kept->w6.heap[g]?=w.heap[g]?:=fun g e=>s g (by rw [e];simp) (by rw [e];simp)
    rcases k2 g E with hkp | hcr
    ·exact km hin (z g hkp) z
    ·by_cases H:c'=c
     ·subst H;by_cases C:lv.ownBlock=some g
      ·obtain⟨D,N,F,t,A⟩:=d.ent x hx g E hcr;rw [t]at e;simp only [Value.slice.injEq,true_and]at e;have hl4:l<=len:=by have:=A C;omega
       have S:∀ k,k<l->∀ j u,(elC x.2 c')[j]?=some u->w.cell? ⟨g,k*(elC x.2 c').length+j,none⟩=some u->w6.cell? ⟨g,k*(elC x.2 c').length+j,none⟩=some u:=fun k hk j u hu h0=>by
        have hjl:=(List.getElem?_eq_some_iff.1 hu).1;have v:(k+1)*(elC x.2 c').length<=len*(elC x.2 c').length:=Nat.mul_le_mul_right _ (by omega);rw [Nat.succ_mul]at v;rw [Q g C _ (by rw [<-D];omega)];exact h0
       rw [jX (by omega)]at hin ⊢;exact fun k hk j u hu=>S k hk j u hu (hin k hk j u hu)
      ·exact km hin (P g hcr C) z
     ·have:=d.oth c' hc' H x hx g E;rw [hcr]at this;cases this
  ·have:=k2 g e;rw [p g (by rcases this with e | e<;>rw [e]<;>simp)];exact this
 refine⟨⟨h.blk.same (s b (by rw [h.wb];simp) (by rw [h.wb];simp)),h.cnt,fun c' hc'=>iI (h.lst c' hc') (fun g e=>s g (by rw [h.wl c' hc' g e];simp) (by rw [h.wl c' hc' g e];simp)),fun c' hc'=>iI (h.mrk c' hc') (fun g e=>s g (by rw [h.wm c' hc' g e];simp) (by rw [h.wm c' hc' g e];simp)),
  fun c' hc' g e=>(by rw [p g (by rw [h.wl c' hc' g e];simp)];exact h.wl c' hc' g e),fun c' hc' g e=>(by rw [p g (by rw [h.wm c' hc' g e];simp)];exact h.wm c' hc' g e),(by rw [p b (by rw [h.wb];simp)];exact h.wb),fun c' hc' x hx=>U c' x hc' hx,fun g e=>?_⟩,
  ⟨q,fun g e=>(by simp only [Value.ownBlock,Option.some.injEq]at e;subst e;exact iY _ _ _),fun x hx g e a=>?_,fun c' hc' hne x hx g e=>?_,T⟩⟩
 ·by_cases a:g=g6
  ·subst a;exact⟨iA q g rfl,iP q g rfl⟩
  ·rw [iJ _ _ a]at e;have:=h.dom g e;exact⟨this.1,by omega⟩
 ·have L:who g= .cur:=by
   rcases O g a with i | i
   ·have y:=(h.kept c (by omega) x hx).2 g e;have R:=(h.dom g (by rcases y with e | e<;>rw [e]<;>simp)).2;subst i;exact G R
   ·exact i
  obtain⟨D,N,F,t,A⟩:=d.ent x hx g e L;refine⟨D,N,F,t,fun e6=>?_⟩;simp only [Value.ownBlock,Option.some.injEq]at e6;subst e6;rcases key with ⟨k1,_⟩ | ⟨k1,_⟩
  ·have:=A k1;omega
  ·have:=(h.dom g6 (by rw [L];simp)).2;omega
 ·have:=d.oth c' hc' hne x hx g e;rw [p g (by rw [this];simp)];exact this
theorem Hs.begin(h:Hs B w b who n f K M)(hc:c<4)(d:∀ c',c'<5->∀ x∈K c',∀ g,x.1.ownBlock=some g->who g= .kept)(j:w.ownsRow B (teC c) (elC m c).length lv len (List.replicate len (elC m c)).flatten)(k:len<=1000)
  (o:∀ g,lv.ownBlock=some g->who g= .other):∃ who',Hs B w b who' n f K M/\Cur B w who' m c lv len K/\(∀ g,lv.ownBlock≠some g->who' g=who g):=by
 rcases j.2 with ⟨e,_⟩ | ⟨g0,cap,cur,hv,hbb,hh,hrest⟩
 ·refine⟨who,h,⟨j,fun g a=>(by rw [e]at a;cases a),fun x hx g a e3=>?_,fun c' hc' hne x hx g a=>d c' hc' x hx g a,k⟩,fun _ _=>rfl⟩;rw [d c (by omega) x hx g a]at e3;cases e3
 ·have i:lv.ownBlock=some g0:=by rw [hv];rfl
  have l:∀ c',c'<5->∀ x∈K c',∀ g,x.1.ownBlock=some g->g≠g0:=fun c' hc' x hx g e a=>by
   have:=d c' hc' x hx g e;subst a;rw [o g i]at this;cases this
  refine⟨setW who g0 .cur,h.more (fun g e=>iJ _ _ (fun a=>by subst a;exact e (o g i))) (fun g e=>?_),⟨j,fun g a=>(by rw [i]at a;simp only [Option.some.injEq]at a;subst a;exact iY _ _ _),fun x hx g a e3=>?_,fun c' hc' hne x hx g a=>?_,k⟩,fun g e=>iJ _ _ (fun a=>e (by rw [a];exact i))⟩
  ·by_cases a:g=g0
   ·subst a;exact⟨hbb,(Array.getElem?_eq_some_iff.1 hh).1⟩
   ·rw [iJ _ _ a]at e;exact h.dom g e
  ·rw [iJ _ _ (l c (by omega) x hx g a),d c (by omega) x hx g a]at e3;cases e3
  ·rw [iJ _ _ (l c' hc' x hx g a)];exact d c' hc' x hx g a
def settleW(who:Nat->Role):Nat->Role:=fun g=>if (who g).k=5/\(who g).c=0 then .kept else who g
theorem uA{who:Nat->Role}{g:Nat}(h:who g= .cur):settleW who g= .kept:=by unfold settleW;rw [h];rfl
theorem kA{who:Nat->Role}{g:Nat}(h:who g≠ .cur):settleW who g=who g:=by
 unfold settleW;rw [if_neg];rintro⟨a,b⟩;apply h;revert a b
 generalize who g=r;obtain⟨k,c⟩:=r;rintro rfl rfl;rfl
theorem Hs.settled(h:Hs B w b who n f K M):Hs B w b (settleW who) n f K M/\∀ c',c'<5->∀ x∈K c',∀ g,x.1.ownBlock=some g->settleW who g= .kept:=by
 have a:∀ g,who g= .kept\/who g= .cur->settleW who g= .kept:=fun g e=>by
  rcases e with e | e
  ·rw [kA (by rw [e];simp)];exact e
  ·exact uA e
 refine⟨⟨h.blk,h.cnt,h.lst,h.mrk,fun c hc g e=>?_,fun c hc g e=>?_,?_,fun c hc x hx=>?_,fun g e=>?_⟩,fun c' hc' x hx g e=>a g ((h.kept c' hc' x hx).2 g e)⟩
 ·have:=h.wl c hc g e;rw [kA (by rw [this];simp),this]
 ·have:=h.wm c hc g e;rw [kA (by rw [this];simp),this]
 ·rw [kA (by rw [h.wb];simp),h.wb]
 ·obtain⟨k1,k2⟩:=h.kept c hc x hx;exact⟨k1.who (fun g e=>a g (Or.inl e)),fun g e=>Or.inl (a g (k2 g e))⟩
 ·by_cases d:who g= .cur
  ·exact h.dom g (by rw [d];simp)
  ·rw [kA d]at e;exact h.dom g e
theorem Fr.settled{w0:World}{who0:Nat->Role}{ex:Nat->Prop}(h:Fr w0 w who0 who ex):Fr w0 w who0 (settleW who) ex:=
 ⟨h.os,h.tape,h.output,h.size,fun g h1 h2 h3=>by
  obtain⟨a,b⟩:=h.oth g h1 h2 h3;exact⟨a,by rw [kA (by rw [b];simp)];exact b⟩⟩
end
end
end Go.Proofs.YtklenjmfalljgabGreatDoor
