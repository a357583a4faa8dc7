/- The texts New2 Rep Awk PureB Sch Sch2 Bas Ctr Eq4 PureC Tla Ins Prg Prg2. -/
import Derived.Test.YtklenjmfalljgabGreatDoorM00
import Derived.Test.YtklenjmfalljgabGreatDoorM01
import Derived.WalkSpells
import Derived.WalkLawsBesides
import Derived.Deep.Light
import Derived.Lib.QuietBelow
import Derived.BigQuiet
import Derived.Deep.QuietTactic
import Derived.ChangeKeysEq
import Derived.Control
namespace Go.Proofs.YtklenjmfalljgabGreatDoor
set_option maxRecDepth 100000
set_option maxHeartbeats 8000000
section
open Go.RowKit
attribute [local go_sem] Go.World.cell?_alloc_some
def Inner(w0:World)(L Bt g m n t k:Nat)(p:List (List Ins))(w:World):Prop:=
 ∃ rows v xs,w.heap[g]?=some (.cells rows 111 (0,0))/\rows.size=n/\rows[t]?=some v/\w.ownsRow Bt 115 3 v k xs/\MovesIn L w.heap.size w v.ownBlock xs t ((codeOf p t).take k)/\
  Fin L Bt w rows t p/\(∀ j,t<j->j<n->rows[j]?=some (.slice none 0 0))/\w.cell? ⟨m,0,none⟩=some (.slice (some ⟨g,0,none⟩) n n)/\w0.grownBy w none/\L<=Bt/\Bt<=w.heap.size/\g<L/\m<L/\g≠m/\w0.heap.size<=g
theorem tW{D:World}{L l g m n t k:Nat}{p:List (List Ins)}{c d f:World}{rows:Array Value}{v:Value}{xs:List Value}{C:Nat}{z:Array Value}{i:Ins}{E:Obj}{g2 o:Nat}
  (Y:c.heap[g]?=some (.cells rows 111 (0,0))) (J:rows.size=n) (B:c.ownsRow l 115 3 v k xs) (j5:MovesIn L c.heap.size c v.ownBlock xs t ((codeOf p t).take k))
  (j6:Fin L l c rows t p) (j7:∀ j,t<j->j<n->rows[j]?=some (.slice none 0 0)) (j9:D.grownBy c none) (Z:L<=l) (aa:l<=c.heap.size) (A:g<L) (ab:m<L) (H:g≠m) (I:D.heap.size<=g)
  (W:t<n) (S:k<(codeOf p t).length) (Q:(codeOf p t)[k]=i)
  (M:∀ u:World,(∀ q,c.heap.size+1<=q->q<d.heap.size->u.heap[q]?=d.heap[q]?)->ActIs d.heap.size u (.func (.func C) #[] z) t i) (O:c.grownBy d none) (hsz4:c.heap.size+1<=d.heap.size)
  (V:f.ownsRow l 115 3 (.slice (some ⟨g2,0,none⟩) (k+1) o) (k+1) (xs++moveV C z i)) (s:(d.alloc E).grownBy f v.ownBlock) (F:v.ownBlock=some g2\/g2=d.heap.size+1)
  (s1:f.cell? ⟨m,0,none⟩=some (.slice (some ⟨g,0,none⟩) n n)):
  Inner D L l g m n t (k+1) p (f.setCell ⟨g,t,none⟩ (.slice (some ⟨g2,0,none⟩) (k+1) o)):=by
 have x:∀ q,v.ownBlock=some q->l<=q/\q<c.heap.size:=fun q e=>⟨iA B q e,by
  rcases B.2 with ⟨e1,_⟩ | ⟨g',_,_,hv,_,hh,_⟩
  ·rw [e1]at e;cases e
  ·rw [hv]at e;have:=(Array.getElem?_eq_some_iff.1 hh).1;simp [Value.ownBlock]at e;omega⟩
 have y:c.grownBy (d.alloc E) none:=iq O;have X:=s.size;simp only [World.size_alloc]at X;have P:g<c.heap.size:=by omega
 have N:f.heap[g]?=some (.cells rows 111 (0,0)):=by
  rw [s.block g (by simp;omega) (fun e=>by have:=x g e.symm;omega),y.block g P (by simp)];exact Y
 have G:f.grownBy (f.setCell ⟨g,t,none⟩ (.slice (some ⟨g2,0,none⟩) (k+1) o)) (some g):=iM;have R:∀ q,c.heap.size+1<=q->q<d.heap.size->(f.setCell ⟨g,t,none⟩ (.slice (some ⟨g2,0,none⟩) (k+1) o)).heap[q]?=d.heap[q]?:=fun q w r=>by
  rw [Below.heap_setCell _ _ _ _ (by simp;omega),s.block q (by simp;omega) (fun e=>by have:=x q e.symm;omega),Below.heap_alloc _ _ _ r]
 have T:MovesIn L c.heap.size f v.ownBlock xs t ((codeOf p t).take k):=(j5.step (Nat.le_refl _) y (fun q e=>by cases e)).step (by simp;omega) s (fun q e=>Or.inl e);have U:=(T.reown (g:=g2) (F.imp id (fun e=>by omega))).step (by omega) G (fun q e=>by cases e;exact Or.inr (Or.inl A));refine⟨rows.setIfInBounds t (.slice (some ⟨g2,0,none⟩) (k+1) o),.slice (some ⟨g2,0,none⟩) (k+1) o,xs++moveV C z i,heap_setCell_same f g t rows _ _ N,by simp [J],by simp [J,W],ownsRow_setCell_below V (by simp;omega) _,?_,?_,?_,?_,?_,Z,by simp;omega,A,ab,H,I⟩
 ·rw [List.take_succ_eq_append_getElem S,Q];refine MovesIn.snoc (a:=c.heap.size+1) (b:=d.heap.size) (U.mono (by simp;omega)) (by rw [B.1];simp;omega) (by omega) (by simp;omega) (fun h e=>?_) (fun u hu=>M u fun q w r=>by rw [hu q w r,R q w r]);have K:h=g2:=by simp [Value.ownBlock]at e;omega
  subst K;rcases F with e2 | e2
  ·have:=x _ e2;omega
  ·omega
 ·exact(((j6.step aa y (fun q e=>by cases e)).step (by simp;omega) s (fun q e=>Or.inr (x q e).1)).step (by omega) G (fun q e=>by cases e;exact Or.inl A)).rows (Nat.le_refl _)
 ·intro j w r;rw [Array.getElem?_setIfInBounds_ne (by omega)];exact j7 j w r
 ·rw [World.cell?_setCell_far _ _ _ _ (by simpa using H)];exact s1
 ·exact iD (iZ (il j9 y) s (fun q e=>by have:=x q e;omega)) I
theorem uV{p:List (List Ins)}{pv:Value}{w:World}(hp:vProg p=true)(Z:ProgAt w pv p):
  Calls Tryz.prog 16 #[pv] w fun e w'=>∃ m,e= .returned (.pointer (some ⟨m,0,none⟩))/\MachAt w'.heap.size w' m p/\w.grownBy w' none:=by
 obtain⟨i0,bq,bB,bC,bD⟩:=info_parts ym;obtain⟨i1,br,bx,bz,bA⟩:=info_parts wk;obtain⟨ao,ba,rfl,Z⟩:=Z;have hlen:=iW hp;have HP:=ij Z;have HV:=ij hp;clear hp Z;have h4:(p.length:Int)<=4:=by omega
 go_enter Tryz.func16,Tryz.ntmps16
 go_wp2_with (at_make;refine wpList_make_full _ rfl _ _ _ rfl (w.heap.size+1) 111 i0 _ 1 Tryz.underlying108 bq bB bC .i64 .i64 _ _ p.length rfl rfl rfl rfl (by rw [bD];omega) (by unfold maxLen;omega) (by simp) ?_;intro f au ap;have bl:f.cell? ⟨w.heap.size,0,none⟩=some (.slice ao p.length ba):=(by rw [ap.cell_far _ (by simp) (by simp)];simp))
 have a5:Hid (w.grownBy f none):=il (iq (ir _ _)) ap;have hsz2:w.heap.size+2<=f.heap.size:=by
  obtain⟨cur,bn,_⟩:=oQ au;have:=(Array.getElem?_eq_some_iff.1 bn).1;simp at this;omega
 have HR:Hid (∃ rows:Array Value,f.heap[w.heap.size+1]?=some (.cells rows 111 (0,0))/\rows.size=p.length/\∀ j,j<p.length->rows[j]?=some (.slice none 0 0)):=by
  rcases au.2 with ⟨e,_⟩ | ⟨g,c,cur,hv,_,hh,_,_,hs,ht⟩
  ·cases e
  ·simp at hv;obtain⟨F,e2⟩:=hv;subst F;subst e2
   refine⟨cur,hh,by omega,fun j hj=>?_⟩;have e:cur.toList=(madeCells #[Value.slice none 0 0] p.length).toList:=by
    rw [List.take_of_length_le (by simp;omega)]at ht;simpa [Value.cells]using ht
   rw [<-Array.getElem?_toList,e,toList_madeCells_one];simp [hj]
 clear au ap bl;go_loopw [17] (fun i w'=>∃ t:Nat,t<=p.length/\i= .int .i64 t/\Hid (∃ rows,w'.heap[w.heap.size+1]?=some (.cells rows 111 (0,0))/\rows.size=p.length/\Fin (f.heap.size+1) w'.heap.size w' rows t p/\(∀ j,t<=j->j<p.length->rows[j]?=some (.slice none 0 0))/\
   w'.cell? ⟨f.heap.size,0,none⟩=some (.slice (some ⟨w.heap.size+1,0,none⟩) p.length p.length)/\w.grownBy w' none/\f.heap.size+1<=w'.heap.size)) (fun i _=>p.length - (intOf i).toNat)
 case atStart=>
  obtain⟨rows,L,G,h3⟩:=HR.out;refine⟨0,Nat.zero_le _,rfl,rows,?_,G,fun j hj=>by omega,fun j _ hj=>h3 j hj,?_,iq a5.out,by simp⟩
  ·rw [Below.heap_alloc _ _ _ (by omega)];exact L
  ·simp
 case round=>
  obtain⟨t,ht,rfl,HI⟩:=hrel;obtain⟨C,bw⟩:∃ C,C=wr:=⟨_,rfl⟩;subst bw;by_cases I:t<p.length
  ·obtain⟨pg,po,rfl,rv,bu,aa⟩:=HP.out t I;obtain⟨ca,bc,rfl,aa⟩:=aa;have hcl:p[t].length<=16:=by have:=jx (jf HV.out I);rwa [kC I]at this
   have hcl2:(p[t].length:Int)<=16:=by omega
   have HC:=ij aa;clear aa;have hrv':C.cell? ⟨pg,po+t,none⟩=some (.slice ca p[t].length bc):=by
    obtain⟨rows,_,_,_,_,_,hg,_⟩:=HI.out;exact ip hg _ _ bu
   have ht0:(0:Int)<=(t:Int):=by omega
   have ht1:(t:Int)<p.length:=by omega
   have Y:Hid (codeOf p t=p[t]):=kC I;generalize bm:p[t]=c at*;clear bm;go_wp2_with fail
   go_loopw [24] (fun i w'=>∃ k:Nat,k<=c.length/\i= .int .i64 k/\Hid (Inner w (f.heap.size+1) C.heap.size (w.heap.size+1) f.heap.size p.length t k p w')) (fun i _=>c.length - (intOf i).toNat)
   case atStart=>
    obtain⟨rows,L,G,h3,h4,h5,h6,h7⟩:=HI.out;exact⟨0,Nat.zero_le _,rfl,rows,_,[],L,G,h4 t (Nat.le_refl _) I,⟨rfl,Or.inl ⟨rfl,rfl⟩⟩,fun k hk=>by simp at hk,h3,fun j hj hj2=>h4 j (by omega) hj2,h5,h6,h7,Nat.le_refl _,by omega,by omega,by omega,by omega⟩
   case round=>
    obtain⟨k,hk,rfl,ah⟩:=hrel;by_cases ar:k<c.length
    ·obtain⟨cg,co,rfl,c0,c1,c2,c3⟩:=HC.out k ar;have l:Pres w wr:=by
      obtain⟨rows,v,xs,_,_,_,_,_,_,_,_,hg,_⟩:=ah.out;exact ip hg
     have d0:=l _ _ c0;have d1:=l _ _ c1;have d2:=l _ _ c2;have d3:=l _ _ c3;clear c0 c1 c2 c3 l;have hk0:(0:Int)<=(k:Int):=by omega
     have hk1:(k:Int)<c.length:=by omega
     obtain⟨rows,v,xs,E,Q,M,N,J,O,R,j8,j9,aZ,ax,a0,a1,a2,a3⟩:=ah.out;have bp:wr.cell? ⟨w.heap.size+1,t,none⟩=some v:=by simp [World.cell?,E,M]
     have bo:wr.frozen? ⟨w.heap.size+1,t,none⟩=false:=by simp [World.frozen?,E]
     have P:=ij N;have J5:=ij J;have J1:=ij E;have J2:=ij Q;have J6:=ij O;have J7:=ij R;have J9:=ij j9;clear E Q M N J O R j9;go_wp2_with fail
     refine iz (fun u=>u.cell? ⟨f.heap.size,0,none⟩=some (.slice (some ⟨w.heap.size+1,0,none⟩) p.length p.length)/\u.cell? ⟨w.heap.size+1,t,none⟩=some v/\u.cell? ⟨wr.heap.size,0,none⟩=some (.int .i64 c[k].op)/\u.cell? ⟨wr.heap.size,1,none⟩=some (.int .i64 c[k].a)/\u.cell? ⟨wr.heap.size,2,none⟩=some (.int .i64 c[k].b)/\u.cell? ⟨wr.heap.size,3,none⟩=some (.int .i64 c[k].n)) 18 (by kernel_rfl) (by kernel_rfl) ?_ ?_
     ·refine⟨?_,?_,?_,?_,?_,?_⟩<;>simp [go_sem,j8,bp]
     intro aO;refine ie 0 ?v0 rfl (by kernel_rfl) (fun _ _ _ h=>h) (by rfl) ?y0 (by assumption) ?_
     case y0=>(intro u d;obtain⟨g1,g2,s,y,z,g6⟩:=d;go_simp;try rfl)
     simp only [Act.put,List.setIfInBounds_toArray];refine ie 1 ?v1 rfl (by kernel_rfl) (fun _ _ _ h=>h) (by rfl) ?y1 (by assumption) ?_
     case y1=>(intro u d;obtain⟨g1,g2,s,y,z,g6⟩:=d;go_simp;try rfl)
     simp only [Act.put];refine ie 2 ?v2 rfl (by kernel_rfl) (fun _ _ _ h=>h) (by rfl) ?y2 (by assumption) ?_
     case y2=>(intro u d;obtain⟨g1,g2,s,y,z,g6⟩:=d;go_simp;try rfl)
     simp only [Act.put];refine ie 3 ?v3 rfl (by kernel_rfl) (fun _ _ _ h=>h) (by rfl) ?y3 (by assumption) ?_
     case y3=>(intro u d;obtain⟨g1,g2,s,y,z,g6⟩:=d;go_simp;try rfl)
     simp only [Act.put];refine ie 4 ?v4 rfl (by kernel_rfl) (fun _ _ _ h=>h) (by rfl) ?y4 (by assumption) ?_
     case y4=>(intro u d;obtain⟨g1,g2,s,y,z,g6⟩:=d;go_simp;try rfl)
     simp only [Act.put];refine ie 5 ?v5 rfl (by kernel_rfl) (fun _ _ _ h=>h) (by rfl) ?y5 (by assumption) ?_
     case y5=>(intro u d;obtain⟨g1,g2,s,y,z,g6⟩:=d;go_simp;try rfl)
     simp only [Act.put];refine ie 6 ?v6 rfl (by kernel_rfl) (fun _ _ _ h=>h) (by rfl) ?y6 (by assumption) ?_
     case y6=>(intro u d;obtain⟨g1,g2,s,y,z,g6⟩:=d;go_simp;try rfl)
     simp only [Act.put];refine ie 7 ?v7 rfl (by kernel_rfl) (fun _ _ _ h=>h) (by rfl) ?y7 (by assumption) ?_
     case y7=>(intro u d;obtain⟨g1,g2,s,y,z,g6⟩:=d;go_simp;try rfl)
     simp only [Act.put];refine ie 8 ?v8 rfl (by kernel_rfl) (fun _ _ _ h=>h) (by rfl) ?y8 (by assumption) ?_
     case y8=>(intro u d;obtain⟨g1,g2,s,y,z,g6⟩:=d;go_simp;try rfl)
     simp only [Act.put];refine ie 9 ?v9 rfl (by kernel_rfl) (fun _ _ _ h=>h) (by rfl) ?y9 (by assumption) ?_
     case y9=>(intro u d;obtain⟨g1,g2,s,y,z,g6⟩:=d;go_simp;try rfl)
     simp only [Act.put];refine ie 10 ?v10 rfl (by kernel_rfl) (fun _ _ _ h=>h) (by rfl) ?y10 (by assumption) ?_
     case y10=>(intro u d;obtain⟨g1,g2,s,y,z,g6⟩:=d;go_simp;try rfl)
     simp only [Act.put];refine ie 11 ?v11 rfl (by kernel_rfl) (fun _ _ _ h=>h) (by rfl) ?y11 (by assumption) ?_
     case y11=>(intro u d;obtain⟨g1,g2,s,y,z,g6⟩:=d;go_simp;try rfl)
     simp only [Act.put];refine ie 12 ?v12 rfl (by kernel_rfl) (fun _ _ _ h=>h) (by rfl) ?y12 (by assumption) ?_
     case y12=>(intro u d;obtain⟨g1,g2,s,y,z,g6⟩:=d;go_simp;try rfl)
     simp only [Act.put];refine ie 13 ?v13 rfl (by kernel_rfl) (fun _ _ _ h=>h) (by rfl) ?y13 (by assumption) ?_
     case y13=>(intro u d;obtain⟨g1,g2,s,y,z,g6⟩:=d;go_simp;try rfl)
     simp only [Act.put];have aY:=rN (qy (by have:=jf HV.out I;rw [Y.out]at this;exact this) ar);refine iu (i:=14) rfl (by kernel_rfl) (by kernel_rfl) (by rfl) ?_;intro K14 aP;have aB:=ij aP;clear aP;go_simp;refine(uh t c[k] aY.1 aY.2 _).mono ?_;rintro e r ⟨B,A,rfl,aT,ab⟩;simp only [];have az:=ij aT;have ad:=ij ab;have bv:wr.heap.size+1<=r.heap.size:=by have:=ab.size;simpa using this
     have al:r.cell? ⟨f.heap.size,0,none⟩=some (.slice (some ⟨w.heap.size+1,0,none⟩) p.length p.length)/\r.cell? ⟨w.heap.size+1,t,none⟩=some v/\r.cell? ⟨wr.heap.size,0,none⟩=some (.int .i64 c[k].op)/\r.cell? ⟨wr.heap.size,1,none⟩=some (.int .i64 c[k].a)/\r.cell? ⟨wr.heap.size,2,none⟩=some (.int .i64 c[k].b)/\r.cell? ⟨wr.heap.size,3,none⟩=some (.int .i64 c[k].n):=by
      obtain⟨S,T,U,V,W,X⟩:=aO;have l:=ip ab;exact⟨l _ _ S,l _ _ T,l _ _ U,l _ _ V,l _ _ W,l _ _ X⟩
     clear aT ab aO;refine aB.out _ _ al ?_;clear aB;refine iu (i:=15) rfl (by kernel_rfl) (by kernel_rfl) (by rfl) ?_;intro K15 aQ;have aC:=ij aQ;clear aQ;go_simp;have am:(r.alloc (.cells #[.func (.func B) #[] A,.bool (c[k].op==9),.int .i64 (if c[k].op=9 then c[k].a else 0)] 115)).cell? ⟨f.heap.size,0,none⟩=some (.slice (some ⟨w.heap.size+1,0,none⟩) p.length p.length)/\(r.alloc (.cells #[.func (.func B) #[] A,.bool (c[k].op==9),.int .i64 (if c[k].op=9 then c[k].a else 0)] 115)).cell? ⟨w.heap.size+1,t,none⟩=some v/\(r.alloc (.cells #[.func (.func B) #[] A,.bool (c[k].op==9),.int .i64 (if c[k].op=9 then c[k].a else 0)] 115)).cell? ⟨wr.heap.size,0,none⟩=some (.int .i64 c[k].op)/\(r.alloc (.cells #[.func (.func B) #[] A,.bool (c[k].op==9),.int .i64 (if c[k].op=9 then c[k].a else 0)] 115)).cell? ⟨wr.heap.size,1,none⟩=some (.int .i64 c[k].a)/\(r.alloc (.cells #[.func (.func B) #[] A,.bool (c[k].op==9),.int .i64 (if c[k].op=9 then c[k].a else 0)] 115)).cell? ⟨wr.heap.size,2,none⟩=some (.int .i64 c[k].b)/\(r.alloc (.cells #[.func (.func B) #[] A,.bool (c[k].op==9),.int .i64 (if c[k].op=9 then c[k].a else 0)] 115)).cell? ⟨wr.heap.size,3,none⟩=some (.int .i64 c[k].n):=by
      obtain⟨S,T,U,V,W,X⟩:=al;have l:=ip (iq (o:= .cells #[.func (.func B) #[] A,.bool (c[k].op==9),.int .i64 (if c[k].op=9 then c[k].a else 0)] 115) (ir r none));exact⟨l _ _ S,l _ _ T,l _ _ U,l _ _ V,l _ _ W,l _ _ X⟩
     refine aC.out _ _ am ?_;clear aC;have af:Hid (wr.grownBy (r.alloc (.cells #[.func (.func B) #[] A,.bool (c[k].op==9),.int .i64 (if c[k].op=9 then c[k].a else 0)] 115)) none):=iq (il (iy (iq (ir _ _))) ad.out);have bh:k+1<=maxLen:=by unfold maxLen;omega
     have bk:(k+1)*24<=140737488355328:=by omega
     refine iu (i:=16) rfl (by kernel_rfl) (by kernel_rfl) (by rfl) ?_;intro K16 aR;have aD:=ij aR;clear aR;refine wp_append_lies _ (.tmp 39) (.tmp 43) 111 (by rfl) C.heap.size 115 i1 _ 3 24 Tryz.underlying111 br bx bz bA rfl (by omega) v k xs (by rfl) (iC P.out af.out (fun _ e=>by cases e)) ⟨r.heap.size,0,none⟩ 1 1 (moveV B A c[k]) (by rfl) (by rfl) (World.news_of_block (cs:= #[.func (.func B) #[] A,.bool (c[k].op==9),.int .i64 (if c[k].op=9 then c[k].a else 0)]) (t:=115) (fr:=(0,0)) (heap_alloc_new r _)) (by simp [moveV,Value.oneCell']) (by omega) bh bk (by simp;omega) (r.heap.size+1) (by simp) ?_;intro g2 bb D aX aq aU hlt5;have aW:∀ q,v.ownBlock=some q->C.heap.size<=q/\q<wr.heap.size:=fun q e=>⟨iA P.out q e,by
      rcases P.out.2 with ⟨F,_⟩ | ⟨g',_,_,hv,_,hh,_⟩
      ·rw [F]at e;cases e
      ·rw [hv]at e;have:=(Array.getElem?_eq_some_iff.1 hh).1;simp [Value.ownBlock]at e;omega⟩
     have H:∀ q o x,(q<C.heap.size\/wr.heap.size<=q)->(r.alloc (.cells #[.func (.func B) #[] A,.bool (c[k].op==9),.int .i64 (if c[k].op=9 then c[k].a else 0)] 115)).cell? ⟨q,o,none⟩=some x->D.cell? ⟨q,o,none⟩=some x:=fun q o x hq hx=>by
      rw [aq.cell_far _ (World.block_lt_of_cell? _ _ hx) (fun e=>by have:=aW q e.symm;omega)];exact hx
     have aS:D.cell? ⟨f.heap.size,0,none⟩=some (.slice (some ⟨w.heap.size+1,0,none⟩) p.length p.length)/\D.cell? ⟨w.heap.size+1,t,none⟩=some v/\D.cell? ⟨wr.heap.size,0,none⟩=some (.int .i64 c[k].op)/\D.cell? ⟨wr.heap.size,1,none⟩=some (.int .i64 c[k].a)/\D.cell? ⟨wr.heap.size,2,none⟩=some (.int .i64 c[k].b)/\D.cell? ⟨wr.heap.size,3,none⟩=some (.int .i64 c[k].n):=by
      obtain⟨S,T,U,V,W,X⟩:=am;exact⟨H _ _ _ (by omega) S,H _ _ _ (by omega) T,H _ _ _ (by omega) U,H _ _ _ (by omega) V,H _ _ _ (by omega) W,H _ _ _ (by omega) X⟩
     have aE:=ij aX;have ae:=ij aq;have aA:=ij aU;clear aX aq aU al am H;refine aD.out _ _ aS ?_;clear aD;simp only [Act.put,List.setIfInBounds_toArray];refine ie 17 ?v17 rfl (by kernel_rfl) (fun _ _ _ h=>h) (by rfl) ?y17 (by assumption) ?_
     case y17=>(intro u d;obtain⟨g1,g2,s,y,z,g6⟩:=d;go_simp;try rfl)
     simp only [Act.put];refine iF rfl (by kernel_rfl) (by kernel_rfl) (by rfl) ?_;obtain⟨s1,s2,_⟩:=aS;have s2f:D.frozen? ⟨w.heap.size+1,t,none⟩=false:=by
      rw [ae.out.frozen_far _ (by simp;omega) (fun e=>by have:=aW _ e.symm;simp at this;omega),af.out.frozen_far _ (by simp;omega) (by simp)];exact bo
     have K:Hid (Inner w (f.heap.size+1) C.heap.size (w.heap.size+1) f.heap.size p.length t (k+1) p (D.setCell ⟨w.heap.size+1,t,none⟩ (.slice (some ⟨g2,0,none⟩) (k+1) bb))):=
      tW J1.out J2.out P.out J5.out J6.out J7.out J9.out aZ ax a0 a1 a2 a3 I (by rw [Y.out];exact ar) (i:=c[k]) (by simp [Y.out]) (fun u d=>az.out u (fun q L G=>d q (by simpa using L) G)) (il (iy (iq (ir _ _))) ad.out) bv aE.out ae.out aA.out s1
     clear J1 J2 P J5 J6 J7 J9 az ad aE ae aA af;go_simp;go_wp2
     go_roundw
     case rel=>exact⟨k+1,by omega,by go_num,K⟩
     case measure=>simp [intOf];omega
    ·have ek:k=c.length:=by omega
     have K:Hid (∃ rows,wr.heap[w.heap.size+1]?=some (.cells rows 111 (0,0))/\rows.size=p.length/\Fin (f.heap.size+1) wr.heap.size wr rows (t+1) p/\(∀ j,t+1<=j->j<p.length->rows[j]?=some (.slice none 0 0))/\
       wr.cell? ⟨f.heap.size,0,none⟩=some (.slice (some ⟨w.heap.size+1,0,none⟩) p.length p.length)/\w.grownBy wr none/\f.heap.size+1<=wr.heap.size):=by
      obtain⟨rows,v,xs,E,Q,M,N,J,O,R,j8,j9,aZ,ax,a0,a1,a2,a3⟩:=ah.out;have bt:(codeOf p t).length=k:=by rw [Y.out];omega
      rw [List.take_of_length_le (by omega)]at J;have bj:∀ h,v.ownBlock=some h->h<wr.heap.size:=fun q e=>by
       rcases N.2 with ⟨F,_⟩ | ⟨g',_,_,hv,_,hh,_⟩
       ·rw [F]at e;cases e
       ·rw [hv]at e;have:=(Array.getElem?_eq_some_iff.1 hh).1;simp [Value.ownBlock]at e;omega
      refine⟨rows,E,Q,(O.mono ax).succ M (by rw [bt];exact iK N (by omega)) bj J,fun j L G=>R j (by omega) G,j8,j9,by omega⟩
     clear ek;go_wp2
     go_roundw
     case rel=>exact⟨t+1,by omega,by go_num,K⟩
     case measure=>simp [intOf];omega
  ·have et:t=p.length:=by omega
   have K:Hid (MachAt C.heap.size C f.heap.size p/\w.grownBy C none):=by
    obtain⟨rows,E,Q,M,N,J,O,R⟩:=HI.out;refine⟨⟨w.heap.size+1,p.length,by omega,by omega,J,fun j hj=>?_⟩,O⟩;obtain⟨v,F,e2⟩:=M.rowIs (j:=j) (by omega);exact⟨v,by simp [World.cell?,E,F],e2⟩
   clear et;go_wp2
   go_ret;exact⟨f.heap.size,rfl,K.out.1,K.out.2⟩
theorem vh(p:List (List Ins))(pv:Value)(w:World)(r:ShpAt w)(b:ProgAt w pv p):
  Calls Tryz.prog 51 #[pv] w fun e w'=>e= .returned (.bool (vProg p))/\w.grownBy w' none:=by
 obtain⟨ao,cap,rfl,b⟩:=b;have y:=ij r;have x:=ij b;clear r b;by_cases n:1<=p.length
 ·by_cases q:p.length<=4
  ·have g1:(1:Int)<=p.length:=by omega
   have A:(p.length:Int)<=4:=by omega
   have a:Hid (vProg p=p.all vCode):=by unfold Hid;simp [vProg,n,q]
   go_enter Tryz.func51,Tryz.ntmps51
   go_wp2
   go_loopw [18] (fun i w'=>∃ k:Nat,k<=p.length/\i= .int .i64 k/\Hid (w.grownBy w' none)/\Hid ((p.take k).all vCode=true)) (fun i _=>p.length - (intOf i).toNat)
   case atStart=>exact⟨0,Nat.zero_le _,rfl,iq (ir _ _),rfl⟩
   case round=>
    obtain⟨k,hk,rfl,j,l⟩:=hrel;by_cases t:k<p.length
    ·obtain⟨g,o,rfl,rv,c0,c1⟩:=x.out k t;have d:=ip j.out;have d0:=d _ _ c0;have u:=ij (c1.pres d);have f:=ij (ju p vCode k t);have z:Hid (ShpAt wr):=y.out.pres d;clear c0 c1 d;have hk0:(0:Int)<=(k:Int):=by omega
     have hk1:(k:Int)<p.length:=by omega
     generalize p[k]=c at*;go_wp2_with fail
     refine(pM c rv _ z.out u.out).mono ?_;rintro e B ⟨rfl,s⟩;have m:Hid (w.grownBy B none):=il j.out s;clear s;cases hv:vCode c
     ·have h:Hid (vProg p=false):=by
       unfold Hid;rw [a.out];have:(p.take (k+1)).all vCode=false:=by rw [f.out,hv];simp
       rw [<-List.take_append_drop (k+1) p,List.all_append,this];rfl
      go_wp2_with fail
      go_ret;exact⟨by rw [h.out];rfl,m⟩
     ·have v:Hid ((p.take (k+1)).all vCode=true):=by unfold Hid;rw [f.out,hv,l.out];rfl
      clear f hv;go_wp2
      go_roundw
      case rel=>exact⟨k+1,by omega,by go_num,m,v⟩
      case measure=>simp [intOf];omega
    ·have h:Hid (vProg p=true):=by
      unfold Hid;rw [a.out];have:=l.out;rw [List.take_of_length_le (by omega)]at this;exact this
     go_wp2
     go_ret;exact⟨by rw [h.out];rfl,j⟩
  ·have a:Hid (vProg p=false):=by unfold Hid;simp [vProg,q]
   have A:(4:Int)<p.length:=by omega
   go_enter Tryz.func51,Tryz.ntmps51
   go_wp2
   go_ret;exact⟨by rw [a.out];rfl,iq (ir _ _)⟩
 ·have a:Hid (vProg p=false):=by unfold Hid;simp [vProg,n]
  have g1:(p.length:Int)<1:=by omega
  go_enter Tryz.func51,Tryz.ntmps51
  go_wp2
  go_ret;exact⟨by rw [a.out];rfl,iq (ir _ _)⟩
theorem ProgAt.form{w:World}{pv:Value}{p:List (List Ins)}(h:ProgAt w pv p):∃ ao cap,pv= .agg #[.slice ao p.length cap]:=by
 obtain⟨ao,cap,e,_⟩:=h;exact⟨ao,cap,e⟩
def checkN(p:List (List Ins)):Int:=if vProg p=true then 0 else 1
def checkRunN(p:List (List Ins))(s:List Int):Int:=if vProg p=true then (if s.length<=500 then 0 else 2) else 1
theorem uJ(p:List (List Ins))(pv:Value)(w:World)(d:ShpAt w)(b:ProgAt w pv p):
  Calls Tryz.prog 18 #[pv] w fun e w'=>e= .returned (.int .i64 (checkN p))/\w.grownBy w' none:=by
 have i:=ij d;have h:=ij b;obtain⟨ao,cap,rfl⟩:=b.form;clear d b;go_enter Tryz.func18,Tryz.ntmps18
 go_wp2_with fail
 refine(vh p _ _ (i.out.pres (ip (iq (ir _ _)))) (h.out.pres (ip (iq (ir _ _))))).mono ?_;rintro e j ⟨rfl,f⟩;have c:Hid (w.grownBy j none):=il (iq (ir _ _)) f;clear f;cases hv:vProg p
 ·have a:Hid (checkN p=1):=by unfold Hid checkN;simp [hv]
  go_wp2_with fail
  go_ret;exact⟨by rw [a.out];rfl,c⟩
 ·have a:Hid (checkN p=0):=by unfold Hid checkN;simp [hv]
  go_wp2_with fail
  go_ret;exact⟨by rw [a.out];rfl,c⟩
def ListsAt(w:World)(v:Value)(ss:List (List Int)):Prop:=
 ∃ g o cap,v= .slice (some ⟨g,o,none⟩) ss.length cap/\∀ k (hk:k<ss.length),∃ so sc,w.cell? ⟨g,o+k,none⟩=some (.slice so ss[k].length sc)
theorem ns{W:World}{b:Option Addr}{s:List Int}{a:Nat}{t:TypeId}{g:Nat}(c:W.heap.size=g):ListsAt (W.alloc (.cells #[.slice b s.length a] t)) (.slice (some ⟨g,0,none⟩) 1 1) [s]:=by
 subst c;refine⟨W.heap.size,0,1,rfl,fun k hk=>⟨b,a,?_⟩⟩;have d:k=0:=by simp at hk;omega
 subst d;have h:=heap_alloc_new W (.cells #[.slice b s.length a] t);simp only [World.cell?,h];rfl
def checkRunsN(p:List (List Ins))(ss:List (List Int)):Int:=if vProg p=true then (if ss.all (fun s=>decide (s.length<=500))=true then 0 else 2) else 1
theorem kQ(p:List (List Ins))(s:List Int):checkRunsN p [s]=checkRunN p s:=by simp [checkRunsN,checkRunN]
theorem la(p:List (List Ins))(a:List (List Int))(pv sv:Value)(w:World)(t:ShpAt w)(m:ProgAt w pv p)(D:ListsAt w sv a)(hn:a.length<=1000):
  Calls Tryz.prog 15 #[pv,sv] w fun e w'=>e= .returned (.int .i64 (checkRunsN p a))/\w.grownBy w' none:=by
 have B:=ij t;have A:=ij m;obtain⟨ao,cap,rfl⟩:=m.form;obtain⟨g,o,scap,rfl,hc⟩:=D;have z:=ij hc;clear t m hc;go_enter Tryz.func15,Tryz.ntmps15
 go_wp2_with fail
 refine(uJ p _ _ (B.out.pres (ip (iq (ir _ _)))) (A.out.pres (ip (iq (ir _ _))))).mono ?_;rintro e E ⟨rfl,u⟩;have l:Hid (w.grownBy E none):=il (iq (ir _ _)) u;clear u;cases hv:vProg p
 ·have b:Hid (checkRunsN p a=1):=by unfold Hid checkRunsN;simp [hv]
  have d:checkN p=1:=by unfold checkN;simp [hv]
  rw [d];clear d;go_wp2_with fail
  go_ret;exact⟨by rw [b.out];rfl,l⟩
 ·have d:checkN p=0:=by unfold checkN;simp [hv]
  rw [d];have r:Hid (checkRunsN p a=if a.all (fun s=>decide (s.length<=500))=true then 0 else 2):=by unfold Hid checkRunsN;rw [if_pos hv]
  clear d hv;have hn':(a.length:Int)<=1000:=by omega
  go_wp2_with fail
  go_loopw [15] (fun i w'=>∃ k:Nat,k<=a.length/\i= .int .i64 k/\Hid (w.grownBy w' none)/\Hid ((a.take k).all (fun s=>decide (s.length<=500))=true)) (fun i _=>a.length - (intOf i).toNat)
  case atStart=>exact⟨0,Nat.zero_le _,rfl,l,rfl⟩
  case round=>
   clear l;obtain⟨k,hk,rfl,c,q⟩:=hrel;obtain⟨x,v⟩:∃ x,x=wr:=⟨_,rfl⟩;rw [<-v]at c ⊢;clear v;by_cases n:k<a.length
   ·obtain⟨so,sc,c0⟩:=z.out k n;have d0:=ip c.out _ _ c0;have h:=ij (ju a (fun s=>decide (s.length<=500)) k n);have j:Hid (a[k].length<=500\/(a.all (fun s=>decide (s.length<=500))=false)):=by
     unfold Hid;by_cases f:a[k].length<=500
     ·exact Or.inl f
     ·right
      cases ha:a.all (fun s=>decide (s.length<=500))with
      | false=>rfl
      | true=>
       rw [List.all_eq_true]at ha;have:=ha _ (List.getElem_mem n);simp at this;omega
    clear c0;have hk0:(0:Int)<=(k:Int):=by omega
    have hk1:(k:Int)<a.length:=by omega
    generalize a[k]=s at*;by_cases f:s.length<=500
    ·have C:(s.length:Int)<=500:=by omega
     have y:Hid ((a.take (k+1)).all (fun s=>decide (s.length<=500))=true):=by unfold Hid;rw [h.out,q.out];simp [f]
     clear h j;go_wp2_with fail
     go_roundw
     case rel=>exact⟨k+1,by omega,by go_num,c,y⟩
     case measure=>simp [intOf];omega
    ·have C:(500:Int)<s.length:=by omega
     have b:Hid (checkRunsN p a=2):=by
      unfold Hid;rw [r.out,if_neg]
      rw [j.out.resolve_left f];simp
     clear h j;go_wp2_with fail
     go_ret;exact⟨by rw [b.out];rfl,c⟩
   ·have b:Hid (checkRunsN p a=0):=by
     unfold Hid;rw [r.out,if_pos]
     have:=q.out;rwa [List.take_of_length_le (by omega)]at this
    go_wp2_with fail
    go_ret;exact⟨by rw [b.out];rfl,c⟩
theorem IntsAt.mono{B a:Nat}{w:World}{v:Value}{l:List Int}(h:IntsAt B w v l)(hb:B<=a):IntsAt a w v l:=by
 obtain⟨b,c,e,i,j⟩:=h;refine⟨b,c,e,i,fun k hk=>?_⟩;obtain⟨g,o,d,e2,f⟩:=j k hk;exact⟨g,o,d,by omega,f⟩
theorem IntsAt.pres{B:Nat}{w w':World}{v:Value}{l:List Int}(h:IntsAt B w v l)(m:Pres w w'):IntsAt B w' v l:=by
 obtain⟨a,b,e,i,j⟩:=h;refine⟨a,b,e,i,fun k hk=>?_⟩;obtain⟨g,o,c,d,f⟩:=j k hk;exact⟨g,o,c,d,m _ _ f⟩
theorem IntsAt.form{B:Nat}{w:World}{v:Value}{l:List Int}(h:IntsAt B w v l):∃ ao cap,v= .slice ao l.length cap:=by
 obtain⟨ao,cap,e,_⟩:=h;exact⟨ao,cap,e⟩
def Replayed(p:List (List Ins))(s:List Int)(w:World)(e:Ending)(w':World):Prop:=
 w.grownBy w' none/\
 ((checkRunN p s=0/\∃ rv,e= .returned (.tuple #[rv,.int .i64 0])/\ResAt w.heap.size w' (runS p s) p.length rv)\/
  (checkRunN p s≠0/\e= .returned (.tuple #[.agg #[.int .i64 0,.int .i64 0,.int .i64 0,.slice none 0 0,.int .i64 0,.int .i64 0,.int .i64 0,.int .i64 0,.slice none 0 0],.int .i64 (checkRunN p s)])))
theorem sV(p:List (List Ins))(s:List Int)(pv sv:Value)(w:World)(U:ShpAt w)(z:ProgAt w pv p)(y:IntsAt w.heap.size w sv s):
  Calls Tryz.prog 4 #[pv,sv] w (Replayed p s w):=by
 have ag:=ij U;have P:=ij z;have HI:=ij y;obtain⟨u,x,rfl⟩:=z.form;obtain⟨so,sc,rfl⟩:=y.form;clear U z y;go_enter Tryz.func4,Tryz.ntmps4
 go_wp2_with fail
 have A:∀ a b c,w.grownBy (((w.alloc a).alloc b).alloc c) none:=fun a b c=>iq (iq (iq (ir _ _)))
 refine(la p [s] _ _ _ (ag.out.pres (ip (A _ _ _))) (P.out.pres (ip (A _ _ _))) (ns (by simp)) (by simp)).mono ?_;rw [kQ];rintro e j ⟨rfl,i⟩;have t:Hid (w.grownBy j none):=il (A _ _ _) i;have hsz1:w.heap.size+2<=j.heap.size:=by have:=i.size;simp at this;omega
 have V:j.heap[w.heap.size]?=some (.cells #[.slice u p.length x] 37 (0,0)):=by
  rw [i.block w.heap.size (by simp;omega) (by simp),Below.heap_alloc _ _ _ (by simp;omega),Below.heap_alloc _ _ _ (by simp)];exact heap_alloc_new w _
 have n:j.heap[w.heap.size+1]?=some (.cells #[.int .i64 0,.int .i64 0,.int .i64 0,.slice none 0 0,.int .i64 0,.int .i64 0,.int .i64 0,.int .i64 0,.slice none 0 0] 31 (0,0)):=by
  rw [i.block (w.heap.size+1) (by simp) (by simp),Below.heap_alloc _ _ _ (by simp)];have:=heap_alloc_new (w.alloc (.cells #[.slice u p.length x] 37)) (.cells #[.int .i64 0,.int .i64 0,.int .i64 0,.slice none 0 0,.int .i64 0,.int .i64 0,.int .i64 0,.int .i64 0,.slice none 0 0] 31);simpa using this
 have Y:=ij n;have c0:j.cell? ⟨w.heap.size,0,none⟩=some (.slice u p.length x):=by simp [World.cell?,V]
 clear V i;by_cases f:checkRunN p s=0
 ·have r:=ij f;have h:vProg p=true:=by
   unfold checkRunN at f;by_cases h:vProg p=true
   ·exact h
   ·simp [h]at f
  have l:s.length<=500:=by
   unfold checkRunN at f;by_cases l:s.length<=500
   ·exact l
   ·simp [h,l]at f
  have Q:=ij h;rw [f];clear f h n;go_wp2_with fail
  refine(uV Q.out (P.out.pres (ip t.out))).mono ?_;rintro e k ⟨m,rfl,S,q⟩;have HM:=ij S;have O:Hid (w.grownBy k none):=il t.out q;have hsz2:w.heap.size+2<=k.heap.size:=by have:=q.size;omega
  have Z:Hid (k.heap[w.heap.size+1]?=some (.cells #[.int .i64 0,.int .i64 0,.int .i64 0,.slice none 0 0,.int .i64 0,.int .i64 0,.int .i64 0,.int .i64 0,.slice none 0 0] 31 (0,0))):=by
   unfold Hid;rw [q.block _ (by omega) (by simp)];exact Y.out
  clear S q c0;go_wp2_with fail
  refine(qo Q.out HM.out (Nat.le_refl _) ((HI.out.pres (ip O.out)).mono (by omega)) l).mono ?_;rintro e X ⟨rv,rfl,⟨sv,gv,rfl,C,D⟩,B⟩;obtain⟨x1,x2,x3,rfl⟩:=iw C;obtain⟨y1,y2,y3,rfl⟩:=iw D;have ad:=ij C;have ae:=ij D;have aa:Hid (w.grownBy X none):=il O.out B;have W:X.heap[w.heap.size+1]?=some (.cells #[.int .i64 0,.int .i64 0,.int .i64 0,.slice none 0 0,.int .i64 0,.int .i64 0,.int .i64 0,.int .i64 0,.slice none 0 0] 31 (0,0)):=by
   rw [B.block _ (by omega) (by simp)];exact Z.out
  obtain⟨E,F,G,H,I,J,K,L,M,d⟩:=jl W;have f0:=d 0;have f1:=d 1;have f2:=d 2;have f3:=d 3;have f4:=d 4;have f5:=d 5;have f6:=d 6;have f7:=d 7;have f8:=d 8;clear d W C D B;generalize T:runS p s=o at*;have af:=ij T;clear T;go_wp2_with fail
  refine bodyPost_ret (v:= .tuple #[.agg #[.int .i64 o.kind,.int .i64 o.thread,.int .i64 o.at_,.slice x1 x2 x3,.int .i64 (o.st.vars 0),.int .i64 (o.st.vars 1),.int .i64 (o.st.vars 2),.int .i64 (o.st.vars 3),.slice y1 y2 y3],.int .i64 0]) ?_ rfl ⟨?_,Or.inl ⟨r.out,_,rfl,?_⟩⟩
  ·simp [results,Tryz.results4,go_sem,E,F,G,H,I,J,K,L,M]
  ·iterate 9 refine iD ?_ (by omega)
   exact aa.out
  ·rw [af.out];refine⟨_,_,rfl,?_,?_⟩
   ·refine iK (base:=k.heap.size) ?_ (by omega);iterate 9 refine ownsRow_setCell_below ?_ (by simp;omega) _
    exact ad.out
   ·refine iK (base:=k.heap.size) ?_ (by omega);iterate 9 refine ownsRow_setCell_below ?_ (by simp;omega) _
    exact ae.out
 ·have r:=ij f;obtain⟨E,F,G,H,I,J,K,L,M,d⟩:=jl n;have f0:=d 0;have f1:=d 1;have f2:=d 2;have f3:=d 3;have f4:=d 4;have f5:=d 5;have f6:=d 6;have f7:=d 7;have f8:=d 8;have hne:(checkRunN p s !=0)=true:=by simpa using f
  clear d n f;generalize R:checkRunN p s=e at*;have N:=ij R;clear R;go_wp2_with fail
  refine bodyPost_ret (v:= .tuple #[.agg #[.int .i64 0,.int .i64 0,.int .i64 0,.slice none 0 0,.int .i64 0,.int .i64 0,.int .i64 0,.int .i64 0,.slice none 0 0],.int .i64 e]) ?_ rfl ⟨?_,Or.inr ⟨by rw [N.out];exact r.out,by rw [N.out]⟩⟩
  ·simp [results,Tryz.results4,go_sem,E,F,G,H,I,J,K,L,M]
  ·iterate 9 refine iD ?_ (by omega)
   exact t.out
end
section
theorem l9(p:List (List Ins))(s:St):3<=endingS p s/\endingS p s<=5:=by
 unfold endingS;split
 ·omega
 ·split<;>omega
def Sched(p:List (List Ins))(a:List Int):Prop:=(runS p a).kind≠2/\(runS p a).steps.length=a.length
end
section
open Go.RowKit
attribute [local go_sem] Go.World.cell?_alloc_some
def ints(a:List Int):List Value:=a.map fun x=> .int .i64 x
theorem jc(a:List Int):(ints a).length=a.length:=by simp [ints]
theorem lz(a:List Int):∀ v∈ints a,v.oneCell'=true:=by
 intro v b;simp only [ints,List.mem_map]at b;obtain⟨x,_,rfl⟩:=b;rfl
theorem wq(a:List Int)(x:Int):ints (a++[x])=ints a++[.int .i64 x]:=by simp [ints]
theorem iV{w:World}{base:Nat}{v:Value}{a:List Int}(h:w.ownsRow base 3 1 v a.length (ints a)):IntsAt w.heap.size w v a:=by
 rcases h.2 with ⟨e,e0⟩ | ⟨g,cap,cur,hv,hb,hh,hc,_⟩
 ·refine⟨none,0,by rw [e,e0],by omega,fun k hk=>by omega⟩
 ·refine⟨some ⟨g,0,none⟩,cap,hv,hc,fun k hk=>⟨g,0,rfl,(Array.getElem?_eq_some_iff.1 hh).1,?_⟩⟩;rw [hv]at h;rw [Nat.zero_add,h.cellAt k (by omega)];simp [ints,hk]
def resCells(o:Out)(s1 g1:Value):Array Value:= #[.int .i64 o.kind,.int .i64 o.thread,.int .i64 o.at_,s1,.int .i64 (o.st.vars 0),.int .i64 (o.st.vars 1),.int .i64 (o.st.vars 2),.int .i64 (o.st.vars 3),g1]
def zeroRes:Array Value:= #[.int .i64 0,.int .i64 0,.int .i64 0,.slice none 0 0,.int .i64 0,.int .i64 0,.int .i64 0,.int .i64 0,.slice none 0 0]
structure SchAt(w:World)(p:List (List Ins))(pb:Value)(rb:Nat)(a:List Int)(sv:Value)(w':World):Prop where
 grown:w.grownBy w' none
 row:w'.ownsRow w.heap.size 3 1 sv a.length (ints a)
 nil:a=[]->sv= .slice none 0 0
 apart:sv.ownBlock≠some rb
 res:∃ s1 g1,w'.heap[rb]?=some (.cells (resCells (runS p a) s1 g1) 31 (0,0))/\w'.ownsRow w.heap.size 76 2 s1 (runS p a).steps.length (flatS (runS p a).steps)/\w'.ownsRow w.heap.size 28 4 g1 p.length (regsF p.length (runS p a).st)/\s1.ownBlock≠some rb/\g1.ownBlock≠some rb
 box:w'.heap[w.heap.size]?=some (.cells #[pb] 37 (0,0))
 out:w'.heap[w.heap.size+1]?=some (.cells zeroRes 31 (0,0))
 lo:w.heap.size+2<=rb
 hi:rb<w'.heap.size
 good:Sched p a
theorem SchAt.step{w:World}{p:List (List Ins)}{c:Value}{d:Nat}{a:List Int}{sv:Value}{w' f:World}(h:SchAt w p c d a sv w')(b:w'.grownBy f none):SchAt w p c d a sv f:=by
 obtain⟨n,g1,i,j,k,l,m⟩:=h.res;exact⟨il h.grown b,iC h.row b (fun _ e=>by cases e),h.nil,h.apart,⟨n,g1,by rw [b.block _ h.hi (by simp)];exact i,iC j b (fun _ e=>by cases e),iC k b (fun _ e=>by cases e),l,m⟩,
  by rw [b.block _ (by have:=h.lo;have:=h.hi;omega) (by simp)];exact h.box,by rw [b.block _ (by have:=h.lo;have:=h.hi;omega) (by simp)];exact h.out,h.lo,Nat.lt_of_lt_of_le h.hi b.size,h.good⟩
theorem kq{w:World}{base:Nat}{e:TypeId}{c:Nat}{v:Value}{n:Nat}{xs:List Value}{g o:Nat}{u:Value}(h:w.ownsRow base e c v n xs)(f:v.ownBlock≠some g):(w.setCell ⟨g,o,none⟩ u).ownsRow base e c v n xs:=by
 obtain⟨d,a⟩:=h;refine⟨d,?_⟩;rcases a with a | ⟨b,cap,cur,hv,hb,hh,rest⟩
 ·exact Or.inl a
 ·refine Or.inr ⟨b,cap,cur,hv,hb,?_,rest⟩;rw [Below.heap_setCell _ _ _ _ (fun e=>f (by rw [hv];simp [Value.ownBlock,e]))];exact hh
theorem Cm{w:World}{g:Nat}{x0 x1 x2 x3 v x y z A a b c d e f i j k:Value}{t:TypeId}(h:w.heap[g]?=some (.cells #[x0,x1,x2,x3,v,x,y,z,A] t (0,0))):
  (((((((((w.setCell ⟨g,0,none⟩ a).setCell ⟨g,1,none⟩ b).setCell ⟨g,2,none⟩ c).setCell ⟨g,3,none⟩ d).setCell ⟨g,4,none⟩ e).setCell ⟨g,5,none⟩ f).setCell ⟨g,6,none⟩ i).setCell ⟨g,7,none⟩ j).setCell ⟨g,8,none⟩ k).heap[g]?=some (.cells #[a,b,c,d,e,f,i,j,k] t (0,0)):=by
 have l:=heap_setCell_same w g 0 _ t a h;have m:=heap_setCell_same _ g 1 _ t b l;have n:=heap_setCell_same _ g 2 _ t c m;have o:=heap_setCell_same _ g 3 _ t d n;have p:=heap_setCell_same _ g 4 _ t e o;have q:=heap_setCell_same _ g 5 _ t f p;have r:=heap_setCell_same _ g 6 _ t i q;have s:=heap_setCell_same _ g 7 _ t j r;have u:=heap_setCell_same _ g 8 _ t k s;simpa using u
theorem SchAt.set{w:World}{p:List (List Ins)}{m:Value}{c:Nat}{a b:List Int}{sv tv:Value}{w':World}(h:SchAt w p m c a sv w')(o:b≠[])(z:w'.ownsRow w.heap.size 3 1 tv b.length (ints b))(l:tv.ownBlock≠some c){d g1:Value}
  (y:w'.ownsRow w.heap.size 76 2 d (runS p b).steps.length (flatS (runS p b).steps)) (q:w'.ownsRow w.heap.size 28 4 g1 p.length (regsF p.length (runS p b).st)) (j:d.ownBlock≠some c) (f:g1.ownBlock≠some c) (v:Sched p b):
  SchAt w p m c b tv (((((((((w'.setCell ⟨c,0,none⟩ (.int .i64 (runS p b).kind)).setCell ⟨c,1,none⟩ (.int .i64 (runS p b).thread)).setCell ⟨c,2,none⟩ (.int .i64 (runS p b).at_)).setCell ⟨c,3,none⟩ d).setCell ⟨c,4,none⟩ (.int .i64 ((runS p b).st.vars 0))).setCell ⟨c,5,none⟩ (.int .i64 ((runS p b).st.vars 1))).setCell ⟨c,6,none⟩ (.int .i64 ((runS p b).st.vars 2))).setCell ⟨c,7,none⟩ (.int .i64 ((runS p b).st.vars 3))).setCell ⟨c,8,none⟩ g1):=by
 obtain⟨s0,g0,n,_⟩:=h.res;have u:=h.lo;have hhi:=h.hi;have i:∀ k,k≠c->(((((((((w'.setCell ⟨c,0,none⟩ (.int .i64 (runS p b).kind)).setCell ⟨c,1,none⟩ (.int .i64 (runS p b).thread)).setCell ⟨c,2,none⟩ (.int .i64 (runS p b).at_)).setCell ⟨c,3,none⟩ d).setCell ⟨c,4,none⟩ (.int .i64 ((runS p b).st.vars 0))).setCell ⟨c,5,none⟩ (.int .i64 ((runS p b).st.vars 1))).setCell ⟨c,6,none⟩ (.int .i64 ((runS p b).st.vars 2))).setCell ⟨c,7,none⟩ (.int .i64 ((runS p b).st.vars 3))).setCell ⟨c,8,none⟩ g1).heap[k]?=w'.heap[k]?:=fun k hk=>by
  iterate 9 rw [Below.heap_setCell _ _ _ _ (by simpa using hk)]
 refine⟨?_,?_,fun e=>absurd e o,l,⟨d,g1,Cm n,?_,?_,j,f⟩,?_,?_,u,by simp;omega,v⟩
 ·iterate 9 refine iD ?_ (by omega)
  exact h.grown
 ·iterate 9 refine kq ?_ l
  exact z
 ·iterate 9 refine kq ?_ j
  exact y
 ·iterate 9 refine kq ?_ f
  exact q
 ·rw [i _ (by omega)];exact h.box
 ·rw [i _ (by omega)];exact h.out
section
variable {P : Program} {w : World} {ops : Array Oper} {rest : List Oper} {o : Oper} {a : Act} {Q : Exit -> Act -> World -> Prop}
end
theorem ji:((Tryz.prog.info? 3).map fun i=>(i.zero,i.size,i.bytes))=some (some (.int .i64 0),1,8):=by kernel_rfl
theorem iB{w:World}{base e b:Nat}{a:Option Addr}{n c m:Nat}{xs:List Value}(h:w.ownsRow base e b (.slice a n c) m xs):n=m:=by
 rcases h.2 with ⟨e,e0⟩ | ⟨g,cap,cur,hv,_⟩
 ·simp at e;omega
 ·simp at hv;omega
end
section
open Go.RowKit
theorem iT(w:World):Like w w:=⟨rfl,rfl,rfl,rfl⟩
theorem jb{w' w:World}(h:Like w' w)(n:Nat):Like (w'.drewN n) w:=by
 have:=jB w' n;exact⟨this.1.trans h.1,this.2.1.trans h.2.1,this.2.2.1.trans h.2.2.1,this.2.2.2.trans h.2.2.2⟩
theorem iU{w:World}{base:Nat}{e:TypeId}{b g n a:Nat}{xs:List Value}(h:w.ownsRow base e b (.slice (some ⟨g,0,none⟩) n a) n xs)(j:Nat)(u:Value):
  (w.setCell ⟨g,j,none⟩ u).ownsRow base e b (.slice (some ⟨g,0,none⟩) n a) n (xs.set j u):=by
 obtain⟨c,d⟩:=h;refine⟨by simpa using c,?_⟩;rcases d with ⟨e1,_⟩ | ⟨g',cap',cur,hv,hb,hh,h3,h4,h5,h6⟩
 ·cases e1
 ·simp only [Value.slice.injEq,Option.some.injEq,Addr.mk.injEq,true_and,and_true]at hv;obtain⟨rfl,rfl⟩:=hv;exact Or.inr ⟨g,a,cur.setIfInBounds j u,rfl,hb,heap_setCell_same w g j cur e u hh,h3,h4,by simpa using h5,by rw [<-h6,Array.toList_setIfInBounds,List.take_set]⟩
theorem js{w w':World}(h:Below w.heap.size w w'):w.grownBy w' none:=⟨h.os,h.tape,h.output,h.size,fun k hk _=>h.block k hk⟩
end
section
open Go.RowKit
attribute [local go_sem] Go.World.cell?_alloc_some
def ctrC:List Ins:=[⟨2,0,0,0⟩,⟨1,1,0,1⟩,⟨4,0,1,0⟩,⟨3,0,0,0⟩]
def ctrP:List (List Ins):=[ctrC,ctrC]
def ctrV:Array Value:= #[.int .i64 2,.int .i64 0,.int .i64 0,.int .i64 0,.int .i64 1,.int .i64 1,.int .i64 0,.int .i64 1,.int .i64 4,.int .i64 0,.int .i64 1,.int .i64 0,.int .i64 3,.int .i64 0,.int .i64 0,.int .i64 0]
theorem xJ{w:World}{g:Nat}{ty:TypeId}(h:w.heap[g]?=some (.cells ctrV ty (0,0))):CodeAt w (.slice (some ⟨g,0,none⟩) 4 4) ctrC:=by
 refine⟨some ⟨g,0,none⟩,4,rfl,fun k hk=>⟨g,0,rfl,?_⟩⟩;have a:k=0\/k=1\/k=2\/k=3:=by simp [ctrC]at hk;omega
 simp only [World.cell?,h];rcases a with rfl | rfl | rfl | rfl<;>exact⟨rfl,rfl,rfl,rfl⟩
theorem xK{w:World}{g g2:Nat}{ty ty2:TypeId}(h:w.heap[g]?=some (.cells ctrV ty (0,0)))(b:w.heap[g2]?=some (.cells #[.slice (some ⟨g,0,none⟩) 4 4,.slice (some ⟨g,0,none⟩) 4 4] ty2 (0,0))):
  ProgAt w (.agg #[.slice (some ⟨g2,0,none⟩) 2 2]) ctrP:=by
 refine⟨some ⟨g2,0,none⟩,2,rfl,fun t ht=>⟨g2,0,rfl,.slice (some ⟨g,0,none⟩) 4 4,?_,?_⟩⟩
 ·have a:t=0\/t=1:=by simp [ctrP]at ht;omega
  simp only [World.cell?,b];rcases a with rfl | rfl<;>rfl
 ·have a:t=0\/t=1:=by simp [ctrP]at ht;omega
  rcases a with rfl | rfl<;>exact xJ h
theorem pT(w:World):Calls Tryz.prog 5 #[] w fun e w'=>∃ pv,e= .returned pv/\ProgAt w' pv ctrP/\w.grownBy w' none:=by
 go_enter Tryz.func5,Tryz.ntmps5
 go_wp2_with fail
 refine bodyPost_ret (v:= .agg #[.slice (some ⟨w.heap.size+1+1,0,none⟩) 2 2]) ?_ rfl ⟨_,rfl,xK (g:=w.heap.size+1) (ty:=65) (ty2:=66) ?_ ?_,iq (iq (iq (ir _ _)))⟩
 ·simp [results,Tryz.results5,go_sem]
 ·rw [Below.heap_alloc _ _ _ (by simp)];have:=heap_alloc_new (w.alloc (.cells #[.slice (some ⟨w.heap.size+1+1,0,none⟩) 2 2] 37)) (.cells ctrV 65);simp only [World.size_alloc]at this;exact this
 ·have:=heap_alloc_new ((w.alloc (.cells #[.slice (some ⟨w.heap.size+1+1,0,none⟩) 2 2] 37)).alloc (.cells ctrV 65)) (.cells #[.slice (some ⟨w.heap.size+1,0,none⟩) 4 4,.slice (some ⟨w.heap.size+1,0,none⟩) 4 4] 66);simp only [World.size_alloc]at this;exact this
end
section
open Go.RowKit
theorem nZ(a b c d:Int)(w:World):(Op.equalIn 10000 28 (.agg #[.int .i64 a,.int .i64 b,.int .i64 c,.int .i64 d]) (.agg #[.int .i64 a,.int .i64 b,.int .i64 c,.int .i64 d])).run Tryz.prog w= .ok true w:=by
 obtain⟨i0,h,hz0,k,hz2⟩:=info_parts ji;have hc:Tryz.prog.cellsOf 3=1:=by simp [Program.cellsOf,h,k]
 have f:Tryz.prog.plainKey 3=true:=by simp [Program.plainKey,Tryz.underlying3]
 rw [show (10000:Nat)=9999+1 from rfl,run_equalIn_array w 9999 _ _ (n:=4) (e:=3) (by first | exact Tryz.underlying28 | kernel_rfl) h,hc];have j:∀ (d:Nat) (v:Int),(Op.equalIn (d+1) 3 (.int .i64 v) (.int .i64 v)).run Tryz.prog w= .ok true w:=fun d v=>by
  rw [run_equalIn_int w d _ _ .i64 v v Tryz.underlying3];simp
 have i:=j 9998;simp only [Nat.reduceAdd]at i;have l:=run_part_plain w f (xs:= #[.int .i64 a,.int .i64 b,.int .i64 c,.int .i64 d]) (off:=0) rfl;have m:=run_part_plain w f (xs:= #[.int .i64 a,.int .i64 b,.int .i64 c,.int .i64 d]) (off:=1) rfl;have o:=run_part_plain w f (xs:= #[.int .i64 a,.int .i64 b,.int .i64 c,.int .i64 d]) (off:=2) rfl;have p:=run_part_plain w f (xs:= #[.int .i64 a,.int .i64 b,.int .i64 c,.int .i64 d]) (off:=3) rfl;simp [List.range,List.range.loop,Op.eqItems,Sem.run_bind,l,m,o,p,i,Result.andThen_ok]
end
section
theorem lf(p:List (List Ins)):∀ (l:List Int) (i:Int) (s:St) (acc:List (Int × Int)),∃ m,m<=l.length/\(follow p l i s acc).steps.map (·.1)=acc.map (·.1)++l.take m/\acc.length+m=(follow p l i s acc).steps.length/\∃ more,(follow p l i s acc).steps=acc++more
 | [],i,s,acc=>⟨0,Nat.le_refl _,by simp [mn],by simp [mn],[],by simp [mn]⟩
 | t::r,i,s,acc=>by
  by_cases h1:okAt p s t=true
  ·by_cases h2:(stepS p s t.toNat).1=true
   ·rw [kS p t r i s acc h1 h2];obtain⟨m,q1,q2,q3,more,q4⟩:=lf p r (i+1) (stepS p s t.toNat).2 (acc++[(t,s.next t.toNat)]);refine⟨m+1,by simp;omega,by rw [q2];simp,by rw [<-q3];simp;omega,(t,s.next t.toNat)::more,by rw [q4];simp⟩
   ·have h3:(stepS p s t.toNat).1=false:=by simpa using h2
    rw [kk p t r i s acc h1 h3];exact⟨1,by simp,by simp,by simp,_,rfl⟩
  ·have h3:okAt p s t=false:=by simpa using h1
   rw [jh p t r i s acc h3];exact⟨0,by simp,by simp,by simp,[],by simp⟩
def atR(n:Nat):Code->Bool
 | .region k _ _=>Nat.beq k n
 | .seq a _=>atR n a
 | .block _ c=>atR n c
 | .scope c=>atR n c
 | .loop c=>atR n c
 | _=>false
def tailAt(n:Nat):Code->Option Code
 | .seq a b=>match atR n a with
  | true=>some (.seq a b)
  | false=>match tailAt n a with
   | some c=>some c
   | none=>tailAt n b
 | .block _ c=>tailAt n c
 | .scope c=>tailAt n c
 | .loop c=>tailAt n c
 | .cond _ a b=>match tailAt n a with
  | some c=>some c
  | none=>tailAt n b
 | _=>none
def tailOf(f:Func)(n:Nat):Code:=match f.body with
 | some c=>(tailAt n c).getD .skip
 | none=> .skip
end
section
open Go.RowKit
attribute [local go_sem] Go.World.cell?_alloc_some
def insV(i:Ins):List Value:=[.int .i64 i.op,.int .i64 i.a,.int .i64 i.b,.int .i64 i.n]
def insCells(c:List Ins):List Value:=c.flatMap insV
theorem ma(c:List Ins)(i:Ins):insCells (c++[i])=insCells c++insV i:=by simp [insCells]
theorem mL:∀ (c:List Ins) (k:Nat) (hk:k<c.length),(insCells c)[k*4]?=some (.int .i64 c[k].op)/\(insCells c)[k*4+1]?=some (.int .i64 c[k].a)/\(insCells c)[k*4+2]?=some (.int .i64 c[k].b)/\(insCells c)[k*4+3]?=some (.int .i64 c[k].n)
 | [],k,hk=>by simp at hk
 | i::c,0,hk=>by simp [insCells,insV]
 | i::c,k+1,hk=>by
  have h:=mL c k (by simpa using hk);have e:insCells (i::c)=insV i++insCells c:=by simp [insCells]
  have e4:∀ j,(insCells (i::c))[(k+1)*4+j]?=(insCells c)[k*4+j]?:=fun j=>by
   rw [e,List.getElem?_append_right (by simp [insV];omega)];congr 1
   simp [insV];omega
  refine⟨?_,?_,?_,?_⟩
  ·have:=e4 0;simp only [Nat.add_zero]at this;rw [this];simpa using h.1
  ·rw [e4 1];simpa using h.2.1
  ·rw [e4 2];simpa using h.2.2.1
  ·rw [e4 3];simpa using h.2.2.2
def CodeRow(L B:Nat)(w:World)(v:Value)(c:List Ins):Prop:=w.ownsRow L 65 4 v c.length (insCells c)/\∀ h,v.ownBlock=some h->h<B
theorem CodeRow.codeAt{L B:Nat}{w:World}{v:Value}{c:List Ins}(h:CodeRow L B w v c):CodeAt w v c:=by
 obtain⟨a,_⟩:=h;rcases a.2 with ⟨e,e0⟩ | ⟨g,cap,cur,hv,_⟩
 ·refine⟨none,0,by rw [e,e0],fun k hk=>by omega⟩
 ·refine⟨some ⟨g,0,none⟩,cap,hv,fun k hk=>⟨g,0,rfl,?_⟩⟩;rw [hv]at a;have q:=mL c k hk;refine⟨?_,?_,?_,?_⟩
  ·rw [Nat.zero_add,a.cellAt _ (by omega)];exact q.1
  ·rw [Nat.zero_add,a.cellAt _ (by omega)];exact q.2.1
  ·rw [Nat.zero_add,a.cellAt _ (by omega)];exact q.2.2.1
  ·rw [Nat.zero_add,a.cellAt _ (by omega)];exact q.2.2.2
theorem jq{w w':World}{base:Nat}{e:TypeId}{b:Nat}{v:Value}{n:Nat}{xs:List Value}{r:Option Nat}(h:w.ownsRow base e b v n xs)(d:w.grownBy w' r)(i:∀ k,r=some k->v.ownBlock≠some k):w'.ownsRow base e b v n xs:=by
 obtain⟨c,a⟩:=h;refine⟨c,?_⟩;rcases a with a | ⟨g,cap,cur,hv,hb,hh,rest⟩
 ·exact Or.inl a
 ·have f:g<w.heap.size:=(Array.getElem?_eq_some_iff.1 hh).1;refine Or.inr ⟨g,cap,cur,hv,hb,?_,rest⟩;rw [d.block g f (fun e=>i g e.symm (by rw [hv];rfl))];exact hh
theorem mr{w:World}{i j a b z1 q:Nat}{f h:Value}{o p:Nat}{x1 x2:List Value}(l:w.ownsRow i a z1 f o x1)(m:w.ownsRow j b q h p x2)(n:a≠b):∀ k,f.ownBlock=some k->h.ownBlock≠some k:=by
 intro k c d;rcases l.2 with ⟨e,_⟩ | ⟨g,_,c1,hv,_,hh,_⟩
 ·rw [e]at c;cases c
 ·rcases m.2 with ⟨e,_⟩ | ⟨g',_,c2,hv',_,hh',_⟩
  ·rw [e]at d;cases d
  ·rw [hv]at c;rw [hv']at d;have a:g=k:=by simpa [Value.ownBlock]using c
   have b:g'=k:=by simpa [Value.ownBlock]using d
   rw [a]at hh;rw [b,hh]at hh';simp at hh';exact n hh'.2
def Apt(rows:List Value):Prop:=∀ (i j:Nat) (ri rj:Value),i<j->rows[i]?=some ri->rows[j]?=some rj->∀ g,ri.ownBlock=some g->rj.ownBlock≠some g
theorem Apt.nil:Apt []:=fun i j ri rj _ h=>by simp at h
def ThrAt(L B:Nat)(w:World)(tv:Value)(p:List (List Ins)):Prop:=
 ∃ rows,w.ownsRow L 66 1 tv p.length rows/\(∀ h,tv.ownBlock=some h->h<B)/\(∀ j (hj:j<p.length),(∃ rv,rows[j]?=some rv/\CodeRow L B w rv p[j]))/\Apt rows
theorem ThrAt.step{L B:Nat}{w w':World}{tv:Value}{p:List (List Ins)}{r:Option Nat}(h:ThrAt L B w tv p)(f:w.grownBy w' r)(i:∀ q,r=some q->q<L\/B<=q):ThrAt L B w' tv p:=by
 obtain⟨rows,c,d,m,n⟩:=h;refine⟨rows,jq c f (fun k e a=>?_),d,fun j hj=>?_,n⟩
 ·have:=d k a;have:=iA c k a;rcases i k e with q | q<;>omega
 ·obtain⟨rv,l,a,b⟩:=m j hj;refine⟨rv,l,jq a f (fun k e e4=>?_),b⟩;have:=b k e4;have:=iA a k e4;rcases i k e with q | q<;>omega
theorem ThrAt.mono{L B a:Nat}{w:World}{tv:Value}{p:List (List Ins)}(h:ThrAt L B w tv p)(b:B<=a):ThrAt L a w tv p:=by
 obtain⟨rows,i,k,l,m⟩:=h;refine⟨rows,i,fun q e=>Nat.lt_of_lt_of_le (k q e) b,fun j hj=>?_,m⟩;obtain⟨rv,c,d,f⟩:=l j hj;exact⟨rv,c,d,fun q e=>Nat.lt_of_lt_of_le (f q e) b⟩
theorem ThrAt.progAt{L B:Nat}{w:World}{tv:Value}{p:List (List Ins)}(h:ThrAt L B w tv p):ProgAt w (.agg #[tv]) p:=by
 obtain⟨rows,a,h2,d,_⟩:=h;rcases a.2 with ⟨e,e0⟩ | ⟨g,cap,cur,hv,_⟩
 ·refine⟨none,0,by rw [e,e0],fun k hk=>by omega⟩
 ·refine⟨some ⟨g,0,none⟩,cap,by rw [hv],fun j hj=>⟨g,0,rfl,?_⟩⟩;obtain⟨rv,b,c⟩:=d j hj;rw [hv]at a;exact⟨rv,by rw [Nat.zero_add,a.cellAt j (by omega)];exact b,c.codeAt⟩
theorem ThrAt.snoc{L r B:Nat}{w D a:World}{tv v f:Value}{p:List (List Ins)}{c:List Ins}{rows:List Value}(h:ThrAt L r w tv p)(G:r<=B)(M:∀ q,f.ownBlock=some q->r<=q)(A:w.ownsRow L 66 1 tv p.length rows)(J:CodeRow L B w f c)(z:w.grownBy D none)
  (H:D.grownBy a tv.ownBlock) (N:a.ownsRow L 66 1 v (p.length+1) (rows++[f])) (F:B<=a.heap.size) (P:∀ q,v.ownBlock=some q->q<a.heap.size):ThrAt L a.heap.size a v (p++[c]):=by
 obtain⟨d,n,h2,y,E⟩:=h;have O:d=rows:=by
  rcases n.2 with ⟨e,e0⟩ | ⟨g,cap,cur,hv,_,hh,_,_,_,ht1⟩
  ·have m:=n.1;have s:=A.1
   rw [e0]at m s;rw [List.length_eq_zero_iff.1 (by omega:d.length=0),List.length_eq_zero_iff.1 (by omega:rows.length=0)]
  ·rcases A.2 with ⟨e,e0⟩ | ⟨g',cap',cur',hv',_,hh',_,_,_,ht2⟩
   ·rw [e]at hv;cases hv
   ·rw [hv]at hv';simp at hv';obtain⟨b,x⟩:=hv';rw [<-b,hh]at hh';simp at hh';rw [<-ht1,<-ht2,hh']
 subst O;have C:∀ {rv:Value} {c:List Ins},CodeRow L B w rv c->CodeRow L a.heap.size a rv c:=fun {rv c} hc=>by
  have m:=jq hc.1 z (fun k e=>by cases e);have s:=jq n z (fun k e=>by cases e);exact⟨jq m H (fun k e=>mr s m (by decide) k e),fun q e=>Nat.lt_of_lt_of_le (hc.2 q e) F⟩
 have K:d.length=p.length:=by have:=n.1;omega
 refine⟨d++[f],by simpa using N,P,fun j hj=>?_,fun i j ri rj hij hi hj g e e'=>?_⟩
 ·by_cases o:j<p.length
  ·obtain⟨rv,b,x,t⟩:=y j o;exact⟨rv,by rw [List.getElem?_append_left (by omega)];exact b,by rw [List.getElem_append_left o];exact C ⟨x,fun q e=>Nat.lt_of_lt_of_le (t q e) G⟩⟩
  ·have u:j=p.length:=by simp at hj;omega
   subst u;exact⟨f,by rw [List.getElem?_append_right (by omega)];simp [K],by simpa using C J⟩
 ·have I:=(List.getElem?_eq_some_iff.1 hj).1;simp only [List.length_append,List.length_singleton]at I;rw [List.getElem?_append_left (by omega)]at hi;by_cases o:j<d.length
  ·rw [List.getElem?_append_left o]at hj;exact E i j ri rj hij hi hj g e e'
  ·have u:j=d.length:=by omega
   subst u;rw [List.getElem?_append_right (Nat.le_refl _)]at hj;simp at hj;subst hj;obtain⟨rv,b,_,t⟩:=y i (by omega);rw [hi]at b;cases b
   have:=t g e;have:=M g e';omega
theorem su:((Tryz.prog.info? 65).map fun i=>(i.zero,i.size,i.bytes))=some (some (.agg #[.int .i64 0,.int .i64 0,.int .i64 0,.int .i64 0]),4,32):=by kernel_rfl
theorem wh:((Tryz.prog.info? 66).map fun i=>(i.zero,i.size,i.bytes))=some (some (.slice none 0 0),1,24):=by kernel_rfl
def isInt(c:Int):Prop:= -9223372036854775808<=c/\c<=9223372036854775807
theorem rx{w:World}{base e size:Nat}{v:Value}{n:Nat}{xs:List Value}(h:w.ownsRow base e size v n xs):∀ q,v.ownBlock=some q->q<w.heap.size:=fun q eq=>by
 rcases h.2 with ⟨e1,_⟩ | ⟨g',_,_,hv,_,hh,_⟩
 ·rw [e1]at eq;cases eq
 ·rw [hv]at eq;have:=(Array.getElem?_eq_some_iff.1 hh).1;simp [Value.ownBlock]at eq;omega
theorem yp(i:Ins):∀ v∈insV i,v.oneCell'=true:=by
 intro v a;simp only [insV,List.mem_cons,List.not_mem_nil,or_false]at a
 rcases a with rfl | rfl | rfl | rfl<;>rfl
end
end Go.Proofs.YtklenjmfalljgabGreatDoor
