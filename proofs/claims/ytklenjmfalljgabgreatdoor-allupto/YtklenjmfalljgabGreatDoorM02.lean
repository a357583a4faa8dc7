/- The texts New2 Rep Awk PureB Sch Sch2 Bas Ctr Eq4 PureC Tla Ins Prg Prg2. -/
import Derived.Test.YtklenjmfalljgabGreatDoorM00
import Derived.Test.YtklenjmfalljgabGreatDoorM01
import Derived.WalkSpells
import Derived.WalkLawsBesides
import Derived.Deep.Light
import Derived.Lib.QuietBelow
import Derived.BigQuiet
import Derived.Deep.QuietTactic
import Derived.ChangeKeysEq
import Derived.Control
namespace Go.Proofs.YtklenjmfalljgabGreatDoor
set_option maxRecDepth 100000
set_option maxHeartbeats 8000000
section
open Go.RowKit
attribute [local go_sem] Go.World.cell?_alloc_some
def BN(w0:World)(L Bt g m n t k:Nat)(p:List (List Ins))(w:World):Prop:=
 ∃ rows v xs,w.heap[g]?=some (.cells rows 111 (0,0))/\rows.size=n/\rows[t]?=some v/\w.ownsRow Bt 115 3 v k xs/\MovesIn L w.heap.size w v.ownBlock xs t ((iP p t).take k)/\
  Fin L Bt w rows t p/\(∀ j,t<j->j<n->rows[j]?=some (.slice none 0 0))/\w.cell? ⟨m,0,none⟩=some (.slice (some ⟨g,0,none⟩) n n)/\w0.grownBy w none/\L<=Bt/\Bt<=w.heap.size/\g<L/\m<L/\g≠m/\w0.heap.size<=g
theorem ye{C:World}{L l g m n t k:Nat}{p:List (List Ins)}{c d f:World}{rows:Array Value}{v:Value}{xs:List Value}{A:Nat}{D:Array Value}{i:Ins}{E:Obj}{g2 s:Nat}
  (M:c.heap[g]?=some (.cells rows 111 (0,0))) (H:rows.size=n) (z:c.ownsRow l 115 3 v k xs) (R:MovesIn L c.heap.size c v.ownBlock xs t ((iP p t).take k))
  (j6:Fin L l c rows t p) (j7:∀ j,t<j->j<n->rows[j]?=some (.slice none 0 0)) (Z:C.grownBy c none) (N:L<=l) (V:l<=c.heap.size) (B:g<L) (P:m<L) (J:g≠m) (F:C.heap.size<=g)
  (ht:t<n) (O:k<(iP p t).length) (hi:(iP p t)[k]=i)
  (af:∀ u:World,(∀ q,c.heap.size+1<=q->q<d.heap.size->u.heap[q]?=d.heap[q]?)->ActIs d.heap.size u (.func (.func A) #[] D) t i) (K:c.grownBy d none) (hsz4:c.heap.size+1<=d.heap.size)
  (T:f.ownsRow l 115 3 (.slice (some ⟨g2,0,none⟩) (k+1) s) (k+1) (xs++uG A D i)) (r:(d.alloc E).grownBy f v.ownBlock) (I:v.ownBlock=some g2\/g2=d.heap.size+1)
  (S:f.cell? ⟨m,0,none⟩=some (.slice (some ⟨g,0,none⟩) n n)):
  BN C L l g m n t (k+1) p (f.setCell ⟨g,t,none⟩ (.slice (some ⟨g2,0,none⟩) (k+1) s)):=by
 have x:∀ q,v.ownBlock=some q->l<=q/\q<c.heap.size:=fun q e=>⟨iB z q e,by
  rcases z.2 with ⟨e1,_⟩ | ⟨g',_,_,hv,_,hh,_⟩
  ·rw [e1]at e;cases e
  ·rw [hv]at e;have:=(Array.getElem?_eq_some_iff.1 hh).1;simp [Value.ownBlock]at e;omega⟩
 have y:c.grownBy (d.alloc E) none:=ir K;have aa:=r.size;simp only [World.size_alloc]at aa;have X:g<c.heap.size:=by omega
 have ae:f.heap[g]?=some (.cells rows 111 (0,0)):=by
  rw [r.block g (by simp;omega) (fun e=>by have:=x g e.symm;omega),y.block g X (by simp)];exact M
 have G:f.grownBy (f.setCell ⟨g,t,none⟩ (.slice (some ⟨g2,0,none⟩) (k+1) s)) (some g):=iW;have Y:∀ q,c.heap.size+1<=q->q<d.heap.size->(f.setCell ⟨g,t,none⟩ (.slice (some ⟨g2,0,none⟩) (k+1) s)).heap[q]?=d.heap[q]?:=fun q w o=>by
  rw [Below.heap_setCell _ _ _ _ (by simp;omega),r.block q (by simp;omega) (fun e=>by have:=x q e.symm;omega),Below.heap_alloc _ _ _ o]
 have W:MovesIn L c.heap.size f v.ownBlock xs t ((iP p t).take k):=(R.step (Nat.le_refl _) y (fun q e=>by cases e)).step (by simp;omega) r (fun q e=>Or.inl e);have Q:=(W.reown (g:=g2) (I.imp id (fun e=>by omega))).step (by omega) G (fun q e=>by cases e;exact Or.inr (Or.inl B));refine⟨rows.setIfInBounds t (.slice (some ⟨g2,0,none⟩) (k+1) s),.slice (some ⟨g2,0,none⟩) (k+1) s,xs++uG A D i,heap_setCell_same f g t rows _ _ ae,by simp [H],by simp [H,ht],ownsRow_setCell_below T (by simp;omega) _,?_,?_,?_,?_,?_,N,by simp;omega,B,P,J,F⟩
 ·rw [List.take_succ_eq_append_getElem O,hi];refine MovesIn.snoc (a:=c.heap.size+1) (b:=d.heap.size) (Q.mono (by simp;omega)) (by rw [z.1];simp;omega) (by omega) (by simp;omega) (fun h e=>?_) (fun u hu=>af u fun q w o=>by rw [hu q w o,Y q w o]);have U:h=g2:=by simp [Value.ownBlock]at e;omega
  subst U;rcases I with e2 | e2
  ·have:=x _ e2;omega
  ·omega
 ·exact(((j6.step V y (fun q e=>by cases e)).step (by simp;omega) r (fun q e=>Or.inr (x q e).1)).step (by omega) G (fun q e=>by cases e;exact Or.inl B)).rows (Nat.le_refl _)
 ·intro j w o;rw [Array.getElem?_setIfInBounds_ne (by omega)];exact j7 j w o
 ·rw [World.cell?_setCell_far _ _ _ _ (by simpa using J)];exact S
 ·exact iG (jH (ip Z y) r (fun q e=>by have:=x q e;omega)) F
theorem zC{p:List (List Ins)}{pv:Value}{w:World}(hp:iV p=true)(hP:ProgAt w pv p):
  Calls Tryz.prog 16 #[pv] w fun e w'=>∃ m,e= .returned (.pointer (some ⟨m,0,none⟩))/\MachAt w'.heap.size w' m p/\w.grownBy w' none:=by
 obtain⟨i0,a7,br,bD,bc⟩:=info_parts CK;obtain⟨i1,bv,bH,a4,be⟩:=info_parts Bm;obtain⟨ao,a6,rfl,hP⟩:=hP;have hlen:=jA hp;have HP:=il hP;have HV:=il hp;clear hp hP;have h4:(p.length:Int)<=4:=by omega
 go_enter Tryz.func16,Tryz.ntmps16
 go_wp2_with (at_make;refine wpList_make_full _ rfl _ _ _ rfl (w.heap.size+1) 111 i0 _ 1 Tryz.underlying108 a7 br bD .i64 .i64 _ _ p.length rfl rfl rfl rfl (by rw [bc];omega) (by unfold maxLen;omega) (by simp) ?_;intro f af am;have bw:f.cell? ⟨w.heap.size,0,none⟩=some (.slice ao p.length a6):=(by rw [am.cell_far _ (by simp) (by simp)];simp))
 have bI:Hid (w.grownBy f none):=ip (ir (iu _ _)) am;have hsz2:w.heap.size+2<=f.heap.size:=by
  obtain⟨cur,bk,_⟩:=sj af;have:=(Array.getElem?_eq_some_iff.1 bk).1;simp at this;omega
 have HR:Hid (∃ rows:Array Value,f.heap[w.heap.size+1]?=some (.cells rows 111 (0,0))/\rows.size=p.length/\∀ j,j<p.length->rows[j]?=some (.slice none 0 0)):=by
  rcases af.2 with ⟨e,_⟩ | ⟨g,c,cur,hv,_,hh,_,_,hs,ht⟩
  ·cases e
  ·simp at hv;obtain⟨G,e2⟩:=hv;subst G;subst e2
   refine⟨cur,hh,by omega,fun j hj=>?_⟩;have e:cur.toList=(madeCells #[Value.slice none 0 0] p.length).toList:=by
    rw [List.take_of_length_le (by simp;omega)]at ht;simpa [Value.cells]using ht
   rw [<-Array.getElem?_toList,e,toList_madeCells_one];simp [hj]
 clear af am bw;go_loopw [17] (fun i w'=>∃ t:Nat,t<=p.length/\i= .int .i64 t/\Hid (∃ rows,w'.heap[w.heap.size+1]?=some (.cells rows 111 (0,0))/\rows.size=p.length/\Fin (f.heap.size+1) w'.heap.size w' rows t p/\(∀ j,t<=j->j<p.length->rows[j]?=some (.slice none 0 0))/\
   w'.cell? ⟨f.heap.size,0,none⟩=some (.slice (some ⟨w.heap.size+1,0,none⟩) p.length p.length)/\w.grownBy w' none/\f.heap.size+1<=w'.heap.size)) (fun i _=>p.length - (intOf i).toNat)
 case atStart=>
  obtain⟨rows,K,F,h3⟩:=HR.out;refine⟨0,Nat.zero_le _,rfl,rows,?_,F,fun j hj=>by omega,fun j _ hj=>h3 j hj,?_,ir bI.out,by simp⟩
  ·rw [Below.heap_alloc _ _ _ (by omega)];exact K
  ·simp
 case round=>
  obtain⟨t,ht,rfl,HI⟩:=hrel;obtain⟨C,ba⟩:∃ C,C=wr:=⟨_,rfl⟩;subst ba;by_cases I:t<p.length
  ·obtain⟨pg,po,rfl,rv,bp,Y⟩:=HP.out t I;obtain⟨ca,bh,rfl,Y⟩:=Y;have hcl:p[t].length<=16:=by have:=kW (kg HV.out I);rwa [nn I]at this
   have hcl2:(p[t].length:Int)<=16:=by omega
   have HC:=il Y;clear Y;have hrv':C.cell? ⟨pg,po+t,none⟩=some (.slice ca p[t].length bh):=by
    obtain⟨rows,_,_,_,_,_,hg,_⟩:=HI.out;exact iq hg _ _ bp
   have ht0:(0:Int)<=(t:Int):=by omega
   have ht1:(t:Int)<p.length:=by omega
   have HT:Hid (iP p t=p[t]):=nn I;generalize a5:p[t]=c at*;clear a5;go_wp2_with fail
   go_loopw [24] (fun i w'=>∃ k:Nat,k<=c.length/\i= .int .i64 k/\Hid (BN w (f.heap.size+1) C.heap.size (w.heap.size+1) f.heap.size p.length t k p w')) (fun i _=>c.length - (intOf i).toNat)
   case atStart=>
    obtain⟨rows,K,F,h3,h4,h5,h6,h7⟩:=HI.out;exact⟨0,Nat.zero_le _,rfl,rows,_,[],K,F,h4 t (Nat.le_refl _) I,⟨rfl,Or.inl ⟨rfl,rfl⟩⟩,fun k hk=>by simp at hk,h3,fun j hj hj2=>h4 j (by omega) hj2,h5,h6,h7,Nat.le_refl _,by omega,by omega,by omega,by omega⟩
   case round=>
    obtain⟨k,hk,rfl,aw⟩:=hrel;by_cases ax:k<c.length
    ·obtain⟨cg,co,rfl,c0,c1,c2,c3⟩:=HC.out k ax;have r:Pres w wr:=by
      obtain⟨rows,v,xs,_,_,_,_,_,_,_,_,hg,_⟩:=aw.out;exact iq hg
     have d0:=r _ _ c0;have d1:=r _ _ c1;have d2:=r _ _ c2;have d3:=r _ _ c3;clear c0 c1 c2 c3 r;have hk0:(0:Int)<=(k:Int):=by omega
     have hk1:(k:Int)<c.length:=by omega
     obtain⟨rows,v,xs,E,S,M,L,H,N,U,j8,Z,aO,ah,aB,aG,aS,az⟩:=aw.out;have bq:wr.cell? ⟨w.heap.size+1,t,none⟩=some v:=by simp [World.cell?,E,M]
     have bi:wr.frozen? ⟨w.heap.size+1,t,none⟩=false:=by simp [World.frozen?,E]
     have V:=il L;have J5:=il H;have J1:=il E;have J2:=il S;have J6:=il N;have J7:=il U;have J9:=il Z;clear E S M L H N U Z;go_wp2_with fail
     refine iA (fun u=>u.cell? ⟨f.heap.size,0,none⟩=some (.slice (some ⟨w.heap.size+1,0,none⟩) p.length p.length)/\u.cell? ⟨w.heap.size+1,t,none⟩=some v/\u.cell? ⟨wr.heap.size,0,none⟩=some (.int .i64 c[k].op)/\u.cell? ⟨wr.heap.size,1,none⟩=some (.int .i64 c[k].a)/\u.cell? ⟨wr.heap.size,2,none⟩=some (.int .i64 c[k].b)/\u.cell? ⟨wr.heap.size,3,none⟩=some (.int .i64 c[k].n)) 18 (by kernel_rfl) (by kernel_rfl) ?_ ?_
     ·refine⟨?_,?_,?_,?_,?_,?_⟩<;>simp [go_sem,j8,bq]
     intro aD;refine ij 0 ?v0 rfl (by kernel_rfl) (fun _ _ _ h=>h) (by rfl) ?y0 (by assumption) ?_
     case y0=>(intro u d;obtain⟨g1,g2,s,z,y,g6⟩:=d;go_simp;try rfl)
     simp only [Act.put,List.setIfInBounds_toArray];refine ij 1 ?v1 rfl (by kernel_rfl) (fun _ _ _ h=>h) (by rfl) ?y1 (by assumption) ?_
     case y1=>(intro u d;obtain⟨g1,g2,s,z,y,g6⟩:=d;go_simp;try rfl)
     simp only [Act.put];refine ij 2 ?v2 rfl (by kernel_rfl) (fun _ _ _ h=>h) (by rfl) ?y2 (by assumption) ?_
     case y2=>(intro u d;obtain⟨g1,g2,s,z,y,g6⟩:=d;go_simp;try rfl)
     simp only [Act.put];refine ij 3 ?v3 rfl (by kernel_rfl) (fun _ _ _ h=>h) (by rfl) ?y3 (by assumption) ?_
     case y3=>(intro u d;obtain⟨g1,g2,s,z,y,g6⟩:=d;go_simp;try rfl)
     simp only [Act.put];refine ij 4 ?v4 rfl (by kernel_rfl) (fun _ _ _ h=>h) (by rfl) ?y4 (by assumption) ?_
     case y4=>(intro u d;obtain⟨g1,g2,s,z,y,g6⟩:=d;go_simp;try rfl)
     simp only [Act.put];refine ij 5 ?v5 rfl (by kernel_rfl) (fun _ _ _ h=>h) (by rfl) ?y5 (by assumption) ?_
     case y5=>(intro u d;obtain⟨g1,g2,s,z,y,g6⟩:=d;go_simp;try rfl)
     simp only [Act.put];refine ij 6 ?v6 rfl (by kernel_rfl) (fun _ _ _ h=>h) (by rfl) ?y6 (by assumption) ?_
     case y6=>(intro u d;obtain⟨g1,g2,s,z,y,g6⟩:=d;go_simp;try rfl)
     simp only [Act.put];refine ij 7 ?v7 rfl (by kernel_rfl) (fun _ _ _ h=>h) (by rfl) ?y7 (by assumption) ?_
     case y7=>(intro u d;obtain⟨g1,g2,s,z,y,g6⟩:=d;go_simp;try rfl)
     simp only [Act.put];refine ij 8 ?v8 rfl (by kernel_rfl) (fun _ _ _ h=>h) (by rfl) ?y8 (by assumption) ?_
     case y8=>(intro u d;obtain⟨g1,g2,s,z,y,g6⟩:=d;go_simp;try rfl)
     simp only [Act.put];refine ij 9 ?v9 rfl (by kernel_rfl) (fun _ _ _ h=>h) (by rfl) ?y9 (by assumption) ?_
     case y9=>(intro u d;obtain⟨g1,g2,s,z,y,g6⟩:=d;go_simp;try rfl)
     simp only [Act.put];refine ij 10 ?v10 rfl (by kernel_rfl) (fun _ _ _ h=>h) (by rfl) ?y10 (by assumption) ?_
     case y10=>(intro u d;obtain⟨g1,g2,s,z,y,g6⟩:=d;go_simp;try rfl)
     simp only [Act.put];refine ij 11 ?v11 rfl (by kernel_rfl) (fun _ _ _ h=>h) (by rfl) ?y11 (by assumption) ?_
     case y11=>(intro u d;obtain⟨g1,g2,s,z,y,g6⟩:=d;go_simp;try rfl)
     simp only [Act.put];refine ij 12 ?v12 rfl (by kernel_rfl) (fun _ _ _ h=>h) (by rfl) ?y12 (by assumption) ?_
     case y12=>(intro u d;obtain⟨g1,g2,s,z,y,g6⟩:=d;go_simp;try rfl)
     simp only [Act.put];refine ij 13 ?v13 rfl (by kernel_rfl) (fun _ _ _ h=>h) (by rfl) ?y13 (by assumption) ?_
     case y13=>(intro u d;obtain⟨g1,g2,s,z,y,g6⟩:=d;go_simp;try rfl)
     simp only [Act.put];have aY:=vb (uj (by have:=kg HV.out I;rw [HT.out]at this;exact this) ax);refine iw (i:=14) rfl (by kernel_rfl) (by kernel_rfl) (by rfl) ?_;intro K14 a2;have aC:=il a2;clear a2;go_simp;refine(yZ t c[k] aY.1 aY.2 _).mono ?_;rintro e l ⟨A,B,rfl,aV,aa⟩;simp only [];have aN:=il aV;have ad:=il aa;have bB:wr.heap.size+1<=l.heap.size:=by have:=aa.size;simpa using this
     have an:l.cell? ⟨f.heap.size,0,none⟩=some (.slice (some ⟨w.heap.size+1,0,none⟩) p.length p.length)/\l.cell? ⟨w.heap.size+1,t,none⟩=some v/\l.cell? ⟨wr.heap.size,0,none⟩=some (.int .i64 c[k].op)/\l.cell? ⟨wr.heap.size,1,none⟩=some (.int .i64 c[k].a)/\l.cell? ⟨wr.heap.size,2,none⟩=some (.int .i64 c[k].b)/\l.cell? ⟨wr.heap.size,3,none⟩=some (.int .i64 c[k].n):=by
      obtain⟨P,Q,X,R,W,T⟩:=aD;have r:=iq aa;exact⟨r _ _ P,r _ _ Q,r _ _ X,r _ _ R,r _ _ W,r _ _ T⟩
     clear aV aa aD;refine aC.out _ _ an ?_;clear aC;refine iw (i:=15) rfl (by kernel_rfl) (by kernel_rfl) (by rfl) ?_;intro K15 aK;have aI:=il aK;clear aK;go_simp;have av:(l.alloc (.cells #[.func (.func A) #[] B,.bool (c[k].op==9),.int .i64 (if c[k].op=9 then c[k].a else 0)] 115)).cell? ⟨f.heap.size,0,none⟩=some (.slice (some ⟨w.heap.size+1,0,none⟩) p.length p.length)/\(l.alloc (.cells #[.func (.func A) #[] B,.bool (c[k].op==9),.int .i64 (if c[k].op=9 then c[k].a else 0)] 115)).cell? ⟨w.heap.size+1,t,none⟩=some v/\(l.alloc (.cells #[.func (.func A) #[] B,.bool (c[k].op==9),.int .i64 (if c[k].op=9 then c[k].a else 0)] 115)).cell? ⟨wr.heap.size,0,none⟩=some (.int .i64 c[k].op)/\(l.alloc (.cells #[.func (.func A) #[] B,.bool (c[k].op==9),.int .i64 (if c[k].op=9 then c[k].a else 0)] 115)).cell? ⟨wr.heap.size,1,none⟩=some (.int .i64 c[k].a)/\(l.alloc (.cells #[.func (.func A) #[] B,.bool (c[k].op==9),.int .i64 (if c[k].op=9 then c[k].a else 0)] 115)).cell? ⟨wr.heap.size,2,none⟩=some (.int .i64 c[k].b)/\(l.alloc (.cells #[.func (.func A) #[] B,.bool (c[k].op==9),.int .i64 (if c[k].op=9 then c[k].a else 0)] 115)).cell? ⟨wr.heap.size,3,none⟩=some (.int .i64 c[k].n):=by
      obtain⟨P,Q,X,R,W,T⟩:=an;have r:=iq (ir (o:= .cells #[.func (.func A) #[] B,.bool (c[k].op==9),.int .i64 (if c[k].op=9 then c[k].a else 0)] 115) (iu l none));exact⟨r _ _ P,r _ _ Q,r _ _ X,r _ _ R,r _ _ W,r _ _ T⟩
     refine aI.out _ _ av ?_;clear aI;have aj:Hid (wr.grownBy (l.alloc (.cells #[.func (.func A) #[] B,.bool (c[k].op==9),.int .i64 (if c[k].op=9 then c[k].a else 0)] 115)) none):=ir (ip (iz (ir (iu _ _))) ad.out);have bl:k+1<=maxLen:=by unfold maxLen;omega
     have bx:(k+1)*24<=140737488355328:=by omega
     refine iw (i:=16) rfl (by kernel_rfl) (by kernel_rfl) (by rfl) ?_;intro K16 aF;have a0:=il aF;clear aF;refine wp_append_lies _ (.tmp 39) (.tmp 43) 111 (by rfl) C.heap.size 115 i1 _ 3 24 Tryz.underlying111 bv bH a4 be rfl (by omega) v k xs (by rfl) (iE V.out aj.out (fun _ e=>by cases e)) ⟨l.heap.size,0,none⟩ 1 1 (uG A B c[k]) (by rfl) (by rfl) (World.news_of_block (cs:= #[.func (.func A) #[] B,.bool (c[k].op==9),.int .i64 (if c[k].op=9 then c[k].a else 0)]) (t:=115) (fr:=(0,0)) (heap_alloc_new l _)) (by simp [uG,Value.oneCell']) (by omega) bl bx (by simp;omega) (l.heap.size+1) (by simp) ?_;intro g2 bo D aA ai aE hlt5;have aL:∀ q,v.ownBlock=some q->C.heap.size<=q/\q<wr.heap.size:=fun q e=>⟨iB V.out q e,by
      rcases V.out.2 with ⟨G,_⟩ | ⟨g',_,_,hv,_,hh,_⟩
      ·rw [G]at e;cases e
      ·rw [hv]at e;have:=(Array.getElem?_eq_some_iff.1 hh).1;simp [Value.ownBlock]at e;omega⟩
     have J:∀ q o x,(q<C.heap.size\/wr.heap.size<=q)->(l.alloc (.cells #[.func (.func A) #[] B,.bool (c[k].op==9),.int .i64 (if c[k].op=9 then c[k].a else 0)] 115)).cell? ⟨q,o,none⟩=some x->D.cell? ⟨q,o,none⟩=some x:=fun q o x hq hx=>by
      rw [ai.cell_far _ (World.block_lt_of_cell? _ _ hx) (fun e=>by have:=aL q e.symm;omega)];exact hx
     have aZ:D.cell? ⟨f.heap.size,0,none⟩=some (.slice (some ⟨w.heap.size+1,0,none⟩) p.length p.length)/\D.cell? ⟨w.heap.size+1,t,none⟩=some v/\D.cell? ⟨wr.heap.size,0,none⟩=some (.int .i64 c[k].op)/\D.cell? ⟨wr.heap.size,1,none⟩=some (.int .i64 c[k].a)/\D.cell? ⟨wr.heap.size,2,none⟩=some (.int .i64 c[k].b)/\D.cell? ⟨wr.heap.size,3,none⟩=some (.int .i64 c[k].n):=by
      obtain⟨P,Q,X,R,W,T⟩:=av;exact⟨J _ _ _ (by omega) P,J _ _ _ (by omega) Q,J _ _ _ (by omega) X,J _ _ _ (by omega) R,J _ _ _ (by omega) W,J _ _ _ (by omega) T⟩
     have aX:=il aA;have au:=il ai;have aP:=il aE;clear aA ai aE an av J;refine a0.out _ _ aZ ?_;clear a0;simp only [Act.put,List.setIfInBounds_toArray];refine ij 17 ?v17 rfl (by kernel_rfl) (fun _ _ _ h=>h) (by rfl) ?y17 (by assumption) ?_
     case y17=>(intro u d;obtain⟨g1,g2,s,z,y,g6⟩:=d;go_simp;try rfl)
     simp only [Act.put];refine iI rfl (by kernel_rfl) (by kernel_rfl) (by rfl) ?_;obtain⟨s1,s2,_⟩:=aZ;have s2f:D.frozen? ⟨w.heap.size+1,t,none⟩=false:=by
      rw [au.out.frozen_far _ (by simp;omega) (fun e=>by have:=aL _ e.symm;simp at this;omega),aj.out.frozen_far _ (by simp;omega) (by simp)];exact bi
     have O:Hid (BN w (f.heap.size+1) C.heap.size (w.heap.size+1) f.heap.size p.length t (k+1) p (D.setCell ⟨w.heap.size+1,t,none⟩ (.slice (some ⟨g2,0,none⟩) (k+1) bo))):=
      ye J1.out J2.out V.out J5.out J6.out J7.out J9.out aO ah aB aG aS az I (by rw [HT.out];exact ax) (i:=c[k]) (by simp [HT.out]) (fun u d=>aN.out u (fun q K F=>d q (by simpa using K) F)) (ip (iz (ir (iu _ _))) ad.out) bB aX.out au.out aP.out s1
     clear J1 J2 V J5 J6 J7 J9 aN ad aX au aP aj;go_simp;go_wp2
     go_roundw
     case rel=>exact⟨k+1,by omega,by go_num,O⟩
     case measure=>simp [intOf];omega
    ·have ek:k=c.length:=by omega
     have O:Hid (∃ rows,wr.heap[w.heap.size+1]?=some (.cells rows 111 (0,0))/\rows.size=p.length/\Fin (f.heap.size+1) wr.heap.size wr rows (t+1) p/\(∀ j,t+1<=j->j<p.length->rows[j]?=some (.slice none 0 0))/\
       wr.cell? ⟨f.heap.size,0,none⟩=some (.slice (some ⟨w.heap.size+1,0,none⟩) p.length p.length)/\w.grownBy wr none/\f.heap.size+1<=wr.heap.size):=by
      obtain⟨rows,v,xs,E,S,M,L,H,N,U,j8,Z,aO,ah,aB,aG,aS,az⟩:=aw.out;have a9:(iP p t).length=k:=by rw [HT.out];omega
      rw [List.take_of_length_le (by omega)]at H;have bn:∀ h,v.ownBlock=some h->h<wr.heap.size:=fun q e=>by
       rcases L.2 with ⟨G,_⟩ | ⟨g',_,_,hv,_,hh,_⟩
       ·rw [G]at e;cases e
       ·rw [hv]at e;have:=(Array.getElem?_eq_some_iff.1 hh).1;simp [Value.ownBlock]at e;omega
      refine⟨rows,E,S,(N.mono ah).succ M (by rw [a9];exact iR L (by omega)) bn H,fun j K F=>U j (by omega) F,j8,Z,by omega⟩
     clear ek;go_wp2
     go_roundw
     case rel=>exact⟨t+1,by omega,by go_num,O⟩
     case measure=>simp [intOf];omega
  ·have et:t=p.length:=by omega
   have O:Hid (MachAt C.heap.size C f.heap.size p/\w.grownBy C none):=by
    obtain⟨rows,E,S,M,L,H,N,U⟩:=HI.out;refine⟨⟨w.heap.size+1,p.length,by omega,by omega,H,fun j hj=>?_⟩,N⟩;obtain⟨v,G,e2⟩:=M.rowIs (j:=j) (by omega);exact⟨v,by simp [World.cell?,E,G],e2⟩
   clear et;go_wp2
   go_ret;exact⟨f.heap.size,rfl,O.out.1,O.out.2⟩
theorem zG(p:List (List Ins))(pv:Value)(w:World)(q:ShpAt w)(b:ProgAt w pv p):
  Calls Tryz.prog 51 #[pv] w fun e w'=>e= .returned (.bool (iV p))/\w.grownBy w' none:=by
 obtain⟨ao,cap,rfl,b⟩:=b;have x:=il q;have u:=il b;clear q b;by_cases n:1<=p.length
 ·by_cases m:p.length<=4
  ·have g1:(1:Int)<=p.length:=by omega
   have A:(p.length:Int)<=4:=by omega
   have a:Hid (iV p=p.all kU):=by unfold Hid;simp [iV,n,m]
   go_enter Tryz.func51,Tryz.ntmps51
   go_wp2
   go_loopw [18] (fun i w'=>∃ k:Nat,k<=p.length/\i= .int .i64 k/\Hid (w.grownBy w' none)/\Hid ((p.take k).all kU=true)) (fun i _=>p.length - (intOf i).toNat)
   case atStart=>exact⟨0,Nat.zero_le _,rfl,ir (iu _ _),rfl⟩
   case round=>
    obtain⟨k,hk,rfl,j,s⟩:=hrel;by_cases r:k<p.length
    ·obtain⟨g,o,rfl,rv,c0,c1⟩:=u.out k r;have d:=iq j.out;have d0:=d _ _ c0;have v:=il (c1.pres d);have f:=il (kY p kU k r);have z:Hid (ShpAt wr):=x.out.pres d;clear c0 c1 d;have hk0:(0:Int)<=(k:Int):=by omega
     have hk1:(k:Int)<p.length:=by omega
     generalize p[k]=c at*;go_wp2_with fail
     refine(tW c rv _ z.out v.out).mono ?_;rintro e y ⟨rfl,l⟩;have t:Hid (w.grownBy y none):=ip j.out l;clear l;cases hv:kU c
     ·have h:Hid (iV p=false):=by
       unfold Hid;rw [a.out];have:(p.take (k+1)).all kU=false:=by rw [f.out,hv];simp
       rw [<-List.take_append_drop (k+1) p,List.all_append,this];rfl
      go_wp2_with fail
      go_ret;exact⟨by rw [h.out];rfl,t⟩
     ·have B:Hid ((p.take (k+1)).all kU=true):=by unfold Hid;rw [f.out,hv,s.out];rfl
      clear f hv;go_wp2
      go_roundw
      case rel=>exact⟨k+1,by omega,by go_num,t,B⟩
      case measure=>simp [intOf];omega
    ·have h:Hid (iV p=true):=by
      unfold Hid;rw [a.out];have:=s.out;rw [List.take_of_length_le (by omega)]at this;exact this
     go_wp2
     go_ret;exact⟨by rw [h.out];rfl,j⟩
  ·have a:Hid (iV p=false):=by unfold Hid;simp [iV,m]
   have A:(4:Int)<p.length:=by omega
   go_enter Tryz.func51,Tryz.ntmps51
   go_wp2
   go_ret;exact⟨by rw [a.out];rfl,ir (iu _ _)⟩
 ·have a:Hid (iV p=false):=by unfold Hid;simp [iV,n]
  have g1:(p.length:Int)<1:=by omega
  go_enter Tryz.func51,Tryz.ntmps51
  go_wp2
  go_ret;exact⟨by rw [a.out];rfl,ir (iu _ _)⟩
theorem ProgAt.form{w:World}{pv:Value}{p:List (List Ins)}(h:ProgAt w pv p):∃ ao cap,pv= .agg #[.slice ao p.length cap]:=by
 obtain⟨ao,cap,e,_⟩:=h;exact⟨ao,cap,e⟩
def jh(p:List (List Ins)):Int:=if iV p=true then 0 else 1
def iD(p:List (List Ins))(s:List Int):Int:=if iV p=true then (if s.length<=500 then 0 else 2) else 1
theorem zJ(p:List (List Ins))(pv:Value)(w:World)(f:ShpAt w)(b:ProgAt w pv p):
  Calls Tryz.prog 18 #[pv] w fun e w'=>e= .returned (.int .i64 (jh p))/\w.grownBy w' none:=by
 have i:=il f;have h:=il b;obtain⟨ao,cap,rfl⟩:=b.form;clear f b;go_enter Tryz.func18,Tryz.ntmps18
 go_wp2_with fail
 refine(zG p _ _ (i.out.pres (iq (ir (iu _ _)))) (h.out.pres (iq (ir (iu _ _))))).mono ?_;rintro e j ⟨rfl,c⟩;have d:Hid (w.grownBy j none):=ip (ir (iu _ _)) c;clear c;cases hv:iV p
 ·have a:Hid (jh p=1):=by unfold Hid jh;simp [hv]
  go_wp2_with fail
  go_ret;exact⟨by rw [a.out];rfl,d⟩
 ·have a:Hid (jh p=0):=by unfold Hid jh;simp [hv]
  go_wp2_with fail
  go_ret;exact⟨by rw [a.out];rfl,d⟩
def vr(w:World)(v:Value)(ss:List (List Int)):Prop:=
 ∃ g o cap,v= .slice (some ⟨g,o,none⟩) ss.length cap/\∀ k (hk:k<ss.length),∃ so sc,w.cell? ⟨g,o+k,none⟩=some (.slice so ss[k].length sc)
theorem rs{W:World}{a:Option Addr}{s:List Int}{b:Nat}{t:TypeId}{g:Nat}(c:W.heap.size=g):vr (W.alloc (.cells #[.slice a s.length b] t)) (.slice (some ⟨g,0,none⟩) 1 1) [s]:=by
 subst c;refine⟨W.heap.size,0,1,rfl,fun k hk=>⟨a,b,?_⟩⟩;have d:k=0:=by simp at hk;omega
 subst d;have h:=heap_alloc_new W (.cells #[.slice a s.length b] t);simp only [World.cell?,h];rfl
def iU(p:List (List Ins))(ss:List (List Int)):Int:=if iV p=true then (if ss.all (fun s=>decide (s.length<=500))=true then 0 else 2) else 1
theorem nI(p:List (List Ins))(s:List Int):iU p [s]=iD p s:=by simp [iU,iD]
theorem og(p:List (List Ins))(a:List (List Int))(pv sv:Value)(w:World)(u:ShpAt w)(n:ProgAt w pv p)(y:vr w sv a)(hn:a.length<=1000):
  Calls Tryz.prog 15 #[pv,sv] w fun e w'=>e= .returned (.int .i64 (iU p a))/\w.grownBy w' none:=by
 have A:=il u;have z:=il n;obtain⟨ao,cap,rfl⟩:=n.form;obtain⟨g,o,scap,rfl,hc⟩:=y;have B:=il hc;clear u n hc;go_enter Tryz.func15,Tryz.ntmps15
 go_wp2_with fail
 refine(zJ p _ _ (A.out.pres (iq (ir (iu _ _)))) (z.out.pres (iq (ir (iu _ _))))).mono ?_;rintro e D ⟨rfl,q⟩;have j:Hid (w.grownBy D none):=ip (ir (iu _ _)) q;clear q;cases hv:iV p
 ·have b:Hid (iU p a=1):=by unfold Hid iU;simp [hv]
  have c:jh p=1:=by unfold jh;simp [hv]
  rw [c];clear c;go_wp2_with fail
  go_ret;exact⟨by rw [b.out];rfl,j⟩
 ·have c:jh p=0:=by unfold jh;simp [hv]
  rw [c];have r:Hid (iU p a=if a.all (fun s=>decide (s.length<=500))=true then 0 else 2):=by unfold Hid iU;rw [if_pos hv]
  clear c hv;have hn':(a.length:Int)<=1000:=by omega
  go_wp2_with fail
  go_loopw [15] (fun i w'=>∃ k:Nat,k<=a.length/\i= .int .i64 k/\Hid (w.grownBy w' none)/\Hid ((a.take k).all (fun s=>decide (s.length<=500))=true)) (fun i _=>a.length - (intOf i).toNat)
  case atStart=>exact⟨0,Nat.zero_le _,rfl,j,rfl⟩
  case round=>
   clear j;obtain⟨k,hk,rfl,d,v⟩:=hrel;obtain⟨x,t⟩:∃ x,x=wr:=⟨_,rfl⟩;rw [<-t]at d ⊢;clear t;by_cases m:k<a.length
   ·obtain⟨so,sc,c0⟩:=B.out k m;have d0:=iq d.out _ _ c0;have h:=il (kY a (fun s=>decide (s.length<=500)) k m);have l:Hid (a[k].length<=500\/(a.all (fun s=>decide (s.length<=500))=false)):=by
     unfold Hid;by_cases f:a[k].length<=500
     ·exact Or.inl f
     ·right
      cases ha:a.all (fun s=>decide (s.length<=500))with
      | false=>rfl
      | true=>
       rw [List.all_eq_true]at ha;have:=ha _ (List.getElem_mem m);simp at this;omega
    clear c0;have hk0:(0:Int)<=(k:Int):=by omega
    have hk1:(k:Int)<a.length:=by omega
    generalize a[k]=s at*;by_cases f:s.length<=500
    ·have C:(s.length:Int)<=500:=by omega
     have E:Hid ((a.take (k+1)).all (fun s=>decide (s.length<=500))=true):=by unfold Hid;rw [h.out,v.out];simp [f]
     clear h l;go_wp2_with fail
     go_roundw
     case rel=>exact⟨k+1,by omega,by go_num,d,E⟩
     case measure=>simp [intOf];omega
    ·have C:(500:Int)<s.length:=by omega
     have b:Hid (iU p a=2):=by
      unfold Hid;rw [r.out,if_neg]
      rw [l.out.resolve_left f];simp
     clear h l;go_wp2_with fail
     go_ret;exact⟨by rw [b.out];rfl,d⟩
   ·have b:Hid (iU p a=0):=by
     unfold Hid;rw [r.out,if_pos]
     have:=v.out;rwa [List.take_of_length_le (by omega)]at this
    go_wp2_with fail
    go_ret;exact⟨by rw [b.out];rfl,d⟩
theorem IntsAt.mono{B a:Nat}{w:World}{v:Value}{l:List Int}(h:IntsAt B w v l)(hb:B<=a):IntsAt a w v l:=by
 obtain⟨c,i,e,f,b⟩:=h;refine⟨c,i,e,f,fun k hk=>?_⟩;obtain⟨g,o,j,e2,d⟩:=b k hk;exact⟨g,o,j,by omega,d⟩
theorem IntsAt.pres{B:Nat}{w w':World}{v:Value}{l:List Int}(h:IntsAt B w v l)(i:Pres w w'):IntsAt B w' v l:=by
 obtain⟨b,j,e,f,a⟩:=h;refine⟨b,j,e,f,fun k hk=>?_⟩;obtain⟨g,o,m,d,c⟩:=a k hk;exact⟨g,o,m,d,i _ _ c⟩
theorem IntsAt.form{B:Nat}{w:World}{v:Value}{l:List Int}(h:IntsAt B w v l):∃ ao cap,v= .slice ao l.length cap:=by
 obtain⟨ao,cap,e,_⟩:=h;exact⟨ao,cap,e⟩
def Replayed(p:List (List Ins))(s:List Int)(w:World)(e:Ending)(w':World):Prop:=
 w.grownBy w' none/\
 ((iD p s=0/\∃ rv,e= .returned (.tuple #[rv,.int .i64 0])/\Cz w.heap.size w' (iJ p s) p.length rv)\/
  (iD p s≠0/\e= .returned (.tuple #[.agg #[.int .i64 0,.int .i64 0,.int .i64 0,.slice none 0 0,.int .i64 0,.int .i64 0,.int .i64 0,.int .i64 0,.slice none 0 0],.int .i64 (iD p s)])))
theorem wL(p:List (List Ins))(s:List Int)(pv sv:Value)(w:World)(T:ShpAt w)(K:ProgAt w pv p)(y:IntsAt w.heap.size w sv s):
  Calls Tryz.prog 4 #[pv,sv] w (Replayed p s w):=by
 have ab:=il T;have P:=il K;have HI:=il y;obtain⟨M,z,rfl⟩:=K.form;obtain⟨so,sc,rfl⟩:=y.form;clear T K y;go_enter Tryz.func4,Tryz.ntmps4
 go_wp2_with fail
 have L:∀ a b c,w.grownBy (((w.alloc a).alloc b).alloc c) none:=fun a b c=>ir (ir (ir (iu _ _)))
 refine(og p [s] _ _ _ (ab.out.pres (iq (L _ _ _))) (P.out.pres (iq (L _ _ _))) (rs (by simp)) (by simp)).mono ?_;rw [nI];rintro e k ⟨rfl,i⟩;have B:Hid (w.grownBy k none):=ip (L _ _ _) i;have hsz1:w.heap.size+2<=k.heap.size:=by have:=i.size;simp at this;omega
 have U:k.heap[w.heap.size]?=some (.cells #[.slice M p.length z] 37 (0,0)):=by
  rw [i.block w.heap.size (by simp;omega) (by simp),Below.heap_alloc _ _ _ (by simp;omega),Below.heap_alloc _ _ _ (by simp)];exact heap_alloc_new w _
 have n:k.heap[w.heap.size+1]?=some (.cells #[.int .i64 0,.int .i64 0,.int .i64 0,.slice none 0 0,.int .i64 0,.int .i64 0,.int .i64 0,.int .i64 0,.slice none 0 0] 31 (0,0)):=by
  rw [i.block (w.heap.size+1) (by simp) (by simp),Below.heap_alloc _ _ _ (by simp)];have:=heap_alloc_new (w.alloc (.cells #[.slice M p.length z] 37)) (.cells #[.int .i64 0,.int .i64 0,.int .i64 0,.slice none 0 0,.int .i64 0,.int .i64 0,.int .i64 0,.int .i64 0,.slice none 0 0] 31);simpa using this
 have Y:=il n;have c0:k.cell? ⟨w.heap.size,0,none⟩=some (.slice M p.length z):=by simp [World.cell?,U]
 clear U i;by_cases f:iD p s=0
 ·have H:=il f;have h:iV p=true:=by
   unfold iD at f;by_cases h:iV p=true
   ·exact h
   ·simp [h]at f
  have q:s.length<=500:=by
   unfold iD at f;by_cases q:s.length<=500
   ·exact q
   ·simp [h,q]at f
  have R:=il h;rw [f];clear f h n;go_wp2_with fail
  refine(zC R.out (P.out.pres (iq B.out))).mono ?_;rintro e j ⟨m,rfl,S,l⟩;have HM:=il S;have X:Hid (w.grownBy j none):=ip B.out l;have hsz2:w.heap.size+2<=j.heap.size:=by have:=l.size;omega
  have ae:Hid (j.heap[w.heap.size+1]?=some (.cells #[.int .i64 0,.int .i64 0,.int .i64 0,.slice none 0 0,.int .i64 0,.int .i64 0,.int .i64 0,.int .i64 0,.slice none 0 0] 31 (0,0))):=by
   unfold Hid;rw [l.block _ (by omega) (by simp)];exact Y.out
  clear S l c0;go_wp2_with fail
  refine(ur R.out HM.out (Nat.le_refl _) ((HI.out.pres (iq X.out)).mono (by omega)) q).mono ?_;rintro e W ⟨rv,rfl,⟨sv,gv,rfl,x,C⟩,u⟩;obtain⟨x1,x2,x3,rfl⟩:=iy x;obtain⟨y1,y2,y3,rfl⟩:=iy C;have ac:=il x;have ai:=il C;have aj:Hid (w.grownBy W none):=ip X.out u;have V:W.heap[w.heap.size+1]?=some (.cells #[.int .i64 0,.int .i64 0,.int .i64 0,.slice none 0 0,.int .i64 0,.int .i64 0,.int .i64 0,.int .i64 0,.slice none 0 0] 31 (0,0)):=by
   rw [u.block _ (by omega) (by simp)];exact ae.out
  obtain⟨F,G,D,J,t,I,r,A,E,d⟩:=kw V;have f0:=d 0;have f1:=d 1;have f2:=d 2;have f3:=d 3;have f4:=d 4;have f5:=d 5;have Z:=d 6;have f7:=d 7;have f8:=d 8;clear d V x C u;generalize Q:iJ p s=o at*;have ap:=il Q;clear Q;go_wp2_with fail
  refine bodyPost_ret (v:= .tuple #[.agg #[.int .i64 o.kind,.int .i64 o.thread,.int .i64 o.at_,.slice x1 x2 x3,.int .i64 (o.st.vars 0),.int .i64 (o.st.vars 1),.int .i64 (o.st.vars 2),.int .i64 (o.st.vars 3),.slice y1 y2 y3],.int .i64 0]) ?_ rfl ⟨?_,Or.inl ⟨H.out,_,rfl,?_⟩⟩
  ·simp [results,Tryz.results4,go_sem,F,G,D,J,t,I,r,A,E]
  ·iterate 9 refine iG ?_ (by omega)
   exact aj.out
  ·rw [ap.out];refine⟨_,_,rfl,?_,?_⟩
   ·refine iR (base:=j.heap.size) ?_ (by omega);iterate 9 refine ownsRow_setCell_below ?_ (by simp;omega) _
    exact ac.out
   ·refine iR (base:=j.heap.size) ?_ (by omega);iterate 9 refine ownsRow_setCell_below ?_ (by simp;omega) _
    exact ai.out
 ·have H:=il f;obtain⟨F,G,D,J,t,I,r,A,E,d⟩:=kw n;have f0:=d 0;have f1:=d 1;have f2:=d 2;have f3:=d 3;have f4:=d 4;have f5:=d 5;have Z:=d 6;have f7:=d 7;have f8:=d 8;have hne:(iD p s !=0)=true:=by simpa using f
  clear d n f;generalize N:iD p s=e at*;have O:=il N;clear N;go_wp2_with fail
  refine bodyPost_ret (v:= .tuple #[.agg #[.int .i64 0,.int .i64 0,.int .i64 0,.slice none 0 0,.int .i64 0,.int .i64 0,.int .i64 0,.int .i64 0,.slice none 0 0],.int .i64 e]) ?_ rfl ⟨?_,Or.inr ⟨by rw [O.out];exact H.out,by rw [O.out]⟩⟩
  ·simp [results,Tryz.results4,go_sem,F,G,D,J,t,I,r,A,E]
  ·iterate 9 refine iG ?_ (by omega)
   exact B.out
end
section
theorem py(p:List (List Ins))(s:St):3<=jR p s/\jR p s<=5:=by
 unfold jR;split
 ·omega
 ·split<;>omega
def E6(p:List (List Ins))(a:List Int):Prop:=(iJ p a).kind≠2/\(iJ p a).steps.length=a.length
end
section
open Go.RowKit
attribute [local go_sem] Go.World.cell?_alloc_some
def iM(a:List Int):List Value:=a.map fun x=> .int .i64 x
theorem j0(a:List Int):(iM a).length=a.length:=by simp [iM]
theorem oI(a:List Int):∀ v∈iM a,v.oneCell'=true:=by
 intro v b;simp only [iM,List.mem_map]at b;obtain⟨x,_,rfl⟩:=b;rfl
theorem Be(a:List Int)(x:Int):iM (a++[x])=iM a++[.int .i64 x]:=by simp [iM]
theorem jz{w:World}{base:Nat}{v:Value}{a:List Int}(h:w.ownsRow base 3 1 v a.length (iM a)):IntsAt w.heap.size w v a:=by
 rcases h.2 with ⟨e,e0⟩ | ⟨g,cap,cur,hv,hb,hh,hc,_⟩
 ·refine⟨none,0,by rw [e,e0],by omega,fun k hk=>by omega⟩
 ·refine⟨some ⟨g,0,none⟩,cap,hv,hc,fun k hk=>⟨g,0,rfl,(Array.getElem?_eq_some_iff.1 hh).1,?_⟩⟩;rw [hv]at h;rw [Nat.zero_add,h.cellAt k (by omega)];simp [iM,hk]
def Co(o:Out)(s1 g1:Value):Array Value:= #[.int .i64 o.kind,.int .i64 o.thread,.int .i64 o.at_,s1,.int .i64 (o.st.vars 0),.int .i64 (o.st.vars 1),.int .i64 (o.st.vars 2),.int .i64 (o.st.vars 3),g1]
def DZ:Array Value:= #[.int .i64 0,.int .i64 0,.int .i64 0,.slice none 0 0,.int .i64 0,.int .i64 0,.int .i64 0,.int .i64 0,.slice none 0 0]
structure SchAt(w:World)(p:List (List Ins))(pb:Value)(rb:Nat)(a:List Int)(sv:Value)(w':World):Prop where
 grown:w.grownBy w' none
 row:w'.ownsRow w.heap.size 3 1 sv a.length (iM a)
 nil:a=[]->sv= .slice none 0 0
 apart:sv.ownBlock≠some rb
 res:∃ s1 g1,w'.heap[rb]?=some (.cells (Co (iJ p a) s1 g1) 31 (0,0))/\w'.ownsRow w.heap.size 76 2 s1 (iJ p a).steps.length (iS (iJ p a).steps)/\w'.ownsRow w.heap.size 28 4 g1 p.length (jq p.length (iJ p a).st)/\s1.ownBlock≠some rb/\g1.ownBlock≠some rb
 box:w'.heap[w.heap.size]?=some (.cells #[pb] 37 (0,0))
 out:w'.heap[w.heap.size+1]?=some (.cells DZ 31 (0,0))
 lo:w.heap.size+2<=rb
 hi:rb<w'.heap.size
 good:E6 p a
theorem SchAt.step{w:World}{p:List (List Ins)}{f:Value}{d:Nat}{a:List Int}{sv:Value}{w' c:World}(h:SchAt w p f d a sv w')(b:w'.grownBy c none):SchAt w p f d a sv c:=by
 obtain⟨j,g1,n,l,i,m,k⟩:=h.res;exact⟨ip h.grown b,iE h.row b (fun _ e=>by cases e),h.nil,h.apart,⟨j,g1,by rw [b.block _ h.hi (by simp)];exact n,iE l b (fun _ e=>by cases e),iE i b (fun _ e=>by cases e),m,k⟩,
  by rw [b.block _ (by have:=h.lo;have:=h.hi;omega) (by simp)];exact h.box,by rw [b.block _ (by have:=h.lo;have:=h.hi;omega) (by simp)];exact h.out,h.lo,Nat.lt_of_lt_of_le h.hi b.size,h.good⟩
theorem mU{w:World}{base:Nat}{e:TypeId}{c:Nat}{v:Value}{n:Nat}{xs:List Value}{g o:Nat}{u:Value}(h:w.ownsRow base e c v n xs)(d:v.ownBlock≠some g):(w.setCell ⟨g,o,none⟩ u).ownsRow base e c v n xs:=by
 obtain⟨f,a⟩:=h;refine⟨f,?_⟩;rcases a with a | ⟨b,cap,cur,hv,hb,hh,rest⟩
 ·exact Or.inl a
 ·refine Or.inr ⟨b,cap,cur,hv,hb,?_,rest⟩;rw [Below.heap_setCell _ _ _ _ (fun e=>d (by rw [hv];simp [Value.ownBlock,e]))];exact hh
theorem Gm{w:World}{g:Nat}{x0 x1 x2 x3 o z s A p d j c f a k i b e:Value}{t:TypeId}(h:w.heap[g]?=some (.cells #[x0,x1,x2,x3,o,z,s,A,p] t (0,0))):
  (((((((((w.setCell ⟨g,0,none⟩ d).setCell ⟨g,1,none⟩ j).setCell ⟨g,2,none⟩ c).setCell ⟨g,3,none⟩ f).setCell ⟨g,4,none⟩ a).setCell ⟨g,5,none⟩ k).setCell ⟨g,6,none⟩ i).setCell ⟨g,7,none⟩ b).setCell ⟨g,8,none⟩ e).heap[g]?=some (.cells #[d,j,c,f,a,k,i,b,e] t (0,0)):=by
 have x:=heap_setCell_same w g 0 _ t d h;have r:=heap_setCell_same _ g 1 _ t j x;have m:=heap_setCell_same _ g 2 _ t c r;have l:=heap_setCell_same _ g 3 _ t f m;have q:=heap_setCell_same _ g 4 _ t a l;have y:=heap_setCell_same _ g 5 _ t k q;have n:=heap_setCell_same _ g 6 _ t i y;have u:=heap_setCell_same _ g 7 _ t b n;have v:=heap_setCell_same _ g 8 _ t e u;simpa using v
theorem SchAt.set{w:World}{p:List (List Ins)}{l:Value}{c:Nat}{a b:List Int}{sv tv:Value}{w':World}(h:SchAt w p l c a sv w')(q:b≠[])(z:w'.ownsRow w.heap.size 3 1 tv b.length (iM b))(f:tv.ownBlock≠some c){d g1:Value}
  (v:w'.ownsRow w.heap.size 76 2 d (iJ p b).steps.length (iS (iJ p b).steps)) (u:w'.ownsRow w.heap.size 28 4 g1 p.length (jq p.length (iJ p b).st)) (i:d.ownBlock≠some c) (m:g1.ownBlock≠some c) (n:E6 p b):
  SchAt w p l c b tv (((((((((w'.setCell ⟨c,0,none⟩ (.int .i64 (iJ p b).kind)).setCell ⟨c,1,none⟩ (.int .i64 (iJ p b).thread)).setCell ⟨c,2,none⟩ (.int .i64 (iJ p b).at_)).setCell ⟨c,3,none⟩ d).setCell ⟨c,4,none⟩ (.int .i64 ((iJ p b).st.vars 0))).setCell ⟨c,5,none⟩ (.int .i64 ((iJ p b).st.vars 1))).setCell ⟨c,6,none⟩ (.int .i64 ((iJ p b).st.vars 2))).setCell ⟨c,7,none⟩ (.int .i64 ((iJ p b).st.vars 3))).setCell ⟨c,8,none⟩ g1):=by
 obtain⟨s0,g0,o,_⟩:=h.res;have y:=h.lo;have hhi:=h.hi;have j:∀ k,k≠c->(((((((((w'.setCell ⟨c,0,none⟩ (.int .i64 (iJ p b).kind)).setCell ⟨c,1,none⟩ (.int .i64 (iJ p b).thread)).setCell ⟨c,2,none⟩ (.int .i64 (iJ p b).at_)).setCell ⟨c,3,none⟩ d).setCell ⟨c,4,none⟩ (.int .i64 ((iJ p b).st.vars 0))).setCell ⟨c,5,none⟩ (.int .i64 ((iJ p b).st.vars 1))).setCell ⟨c,6,none⟩ (.int .i64 ((iJ p b).st.vars 2))).setCell ⟨c,7,none⟩ (.int .i64 ((iJ p b).st.vars 3))).setCell ⟨c,8,none⟩ g1).heap[k]?=w'.heap[k]?:=fun k hk=>by
  iterate 9 rw [Below.heap_setCell _ _ _ _ (by simpa using hk)]
 refine⟨?_,?_,fun e=>absurd e q,f,⟨d,g1,Gm o,?_,?_,i,m⟩,?_,?_,y,by simp;omega,n⟩
 ·iterate 9 refine iG ?_ (by omega)
  exact h.grown
 ·iterate 9 refine mU ?_ f
  exact z
 ·iterate 9 refine mU ?_ i
  exact v
 ·iterate 9 refine mU ?_ m
  exact u
 ·rw [j _ (by omega)];exact h.box
 ·rw [j _ (by omega)];exact h.out
section
variable {P : Program} {w : World} {ops : Array Oper} {rest : List Oper} {o : Oper} {a : Act} {Q : Exit -> Act -> World -> Prop}
end
theorem kn:((Tryz.prog.info? 3).map fun i=>(i.zero,i.size,i.bytes))=some (some (.int .i64 0),1,8):=by kernel_rfl
theorem iC{w:World}{base e a:Nat}{b:Option Addr}{n c m:Nat}{xs:List Value}(h:w.ownsRow base e a (.slice b n c) m xs):n=m:=by
 rcases h.2 with ⟨e,e0⟩ | ⟨g,cap,cur,hv,_⟩
 ·simp at e;omega
 ·simp at hv;omega
end
section
open Go.RowKit
theorem jr(w:World):ju w w:=⟨rfl,rfl,rfl,rfl⟩
theorem jW{w' w:World}(h:ju w' w)(n:Nat):ju (w'.drewN n) w:=by
 have:=lj w' n;exact⟨this.1.trans h.1,this.2.1.trans h.2.1,this.2.2.1.trans h.2.2.1,this.2.2.2.trans h.2.2.2⟩
theorem jt{w:World}{base:Nat}{e:TypeId}{b g n a:Nat}{xs:List Value}(h:w.ownsRow base e b (.slice (some ⟨g,0,none⟩) n a) n xs)(j:Nat)(u:Value):
  (w.setCell ⟨g,j,none⟩ u).ownsRow base e b (.slice (some ⟨g,0,none⟩) n a) n (xs.set j u):=by
 obtain⟨c,d⟩:=h;refine⟨by simpa using c,?_⟩;rcases d with ⟨e1,_⟩ | ⟨g',cap',cur,hv,hb,hh,h3,h4,h5,h6⟩
 ·cases e1
 ·simp only [Value.slice.injEq,Option.some.injEq,Addr.mk.injEq,true_and,and_true]at hv;obtain⟨rfl,rfl⟩:=hv;exact Or.inr ⟨g,a,cur.setIfInBounds j u,rfl,hb,heap_setCell_same w g j cur e u hh,h3,h4,by simpa using h5,by rw [<-h6,Array.toList_setIfInBounds,List.take_set]⟩
theorem kQ{w w':World}(h:Below w.heap.size w w'):w.grownBy w' none:=⟨h.os,h.tape,h.output,h.size,fun k hk _=>h.block k hk⟩
end
section
open Go.RowKit
attribute [local go_sem] Go.World.cell?_alloc_some
def EO:List Ins:=[⟨2,0,0,0⟩,⟨1,1,0,1⟩,⟨4,0,1,0⟩,⟨3,0,0,0⟩]
def qB:List (List Ins):=[EO,EO]
def ED:Array Value:= #[.int .i64 2,.int .i64 0,.int .i64 0,.int .i64 0,.int .i64 1,.int .i64 1,.int .i64 0,.int .i64 1,.int .i64 4,.int .i64 0,.int .i64 1,.int .i64 0,.int .i64 3,.int .i64 0,.int .i64 0,.int .i64 0]
theorem Dj{w:World}{g:Nat}{ty:TypeId}(h:w.heap[g]?=some (.cells ED ty (0,0))):CodeAt w (.slice (some ⟨g,0,none⟩) 4 4) EO:=by
 refine⟨some ⟨g,0,none⟩,4,rfl,fun k hk=>⟨g,0,rfl,?_⟩⟩;have a:k=0\/k=1\/k=2\/k=3:=by simp [EO]at hk;omega
 simp only [World.cell?,h];rcases a with rfl | rfl | rfl | rfl<;>exact⟨rfl,rfl,rfl,rfl⟩
theorem BA{w:World}{g g2:Nat}{ty ty2:TypeId}(h:w.heap[g]?=some (.cells ED ty (0,0)))(b:w.heap[g2]?=some (.cells #[.slice (some ⟨g,0,none⟩) 4 4,.slice (some ⟨g,0,none⟩) 4 4] ty2 (0,0))):
  ProgAt w (.agg #[.slice (some ⟨g2,0,none⟩) 2 2]) qB:=by
 refine⟨some ⟨g2,0,none⟩,2,rfl,fun t ht=>⟨g2,0,rfl,.slice (some ⟨g,0,none⟩) 4 4,?_,?_⟩⟩
 ·have a:t=0\/t=1:=by simp [qB]at ht;omega
  simp only [World.cell?,b];rcases a with rfl | rfl<;>rfl
 ·have a:t=0\/t=1:=by simp [qB]at ht;omega
  rcases a with rfl | rfl<;>exact Dj h
theorem uF(w:World):Calls Tryz.prog 5 #[] w fun e w'=>∃ pv,e= .returned pv/\ProgAt w' pv qB/\w.grownBy w' none:=by
 go_enter Tryz.func5,Tryz.ntmps5
 go_wp2_with fail
 refine bodyPost_ret (v:= .agg #[.slice (some ⟨w.heap.size+1+1,0,none⟩) 2 2]) ?_ rfl ⟨_,rfl,BA (g:=w.heap.size+1) (ty:=65) (ty2:=66) ?_ ?_,ir (ir (ir (iu _ _)))⟩
 ·simp [results,Tryz.results5,go_sem]
 ·rw [Below.heap_alloc _ _ _ (by simp)];have:=heap_alloc_new (w.alloc (.cells #[.slice (some ⟨w.heap.size+1+1,0,none⟩) 2 2] 37)) (.cells ED 65);simp only [World.size_alloc]at this;exact this
 ·have:=heap_alloc_new ((w.alloc (.cells #[.slice (some ⟨w.heap.size+1+1,0,none⟩) 2 2] 37)).alloc (.cells ED 65)) (.cells #[.slice (some ⟨w.heap.size+1,0,none⟩) 4 4,.slice (some ⟨w.heap.size+1,0,none⟩) 4 4] 66);simp only [World.size_alloc]at this;exact this
end
section
open Go.RowKit
theorem se(a b c d:Int)(w:World):(Op.equalIn 10000 28 (.agg #[.int .i64 a,.int .i64 b,.int .i64 c,.int .i64 d]) (.agg #[.int .i64 a,.int .i64 b,.int .i64 c,.int .i64 d])).run Tryz.prog w= .ok true w:=by
 obtain⟨i0,i,hz0,k,hz2⟩:=info_parts kn;have hc:Tryz.prog.cellsOf 3=1:=by simp [Program.cellsOf,i,k]
 have f:Tryz.prog.plainKey 3=true:=by simp [Program.plainKey,Tryz.underlying3]
 rw [show (10000:Nat)=9999+1 from rfl,run_equalIn_array w 9999 _ _ (n:=4) (e:=3) (by first | exact Tryz.underlying28 | kernel_rfl) i,hc];have p:∀ (d:Nat) (v:Int),(Op.equalIn (d+1) 3 (.int .i64 v) (.int .i64 v)).run Tryz.prog w= .ok true w:=fun d v=>by
  rw [run_equalIn_int w d _ _ .i64 v v Tryz.underlying3];simp
 have h:=p 9998;simp only [Nat.reduceAdd]at h;have m:=run_part_plain w f (xs:= #[.int .i64 a,.int .i64 b,.int .i64 c,.int .i64 d]) (off:=0) rfl;have l:=run_part_plain w f (xs:= #[.int .i64 a,.int .i64 b,.int .i64 c,.int .i64 d]) (off:=1) rfl;have o:=run_part_plain w f (xs:= #[.int .i64 a,.int .i64 b,.int .i64 c,.int .i64 d]) (off:=2) rfl;have j:=run_part_plain w f (xs:= #[.int .i64 a,.int .i64 b,.int .i64 c,.int .i64 d]) (off:=3) rfl;simp [List.range,List.range.loop,Op.eqItems,Sem.run_bind,m,l,o,j,h,Result.andThen_ok]
end
section
theorem ow(p:List (List Ins)):∀ (l:List Int) (i:Int) (s:St) (acc:List (Int × Int)),∃ m,m<=l.length/\(je p l i s acc).steps.map (·.1)=acc.map (·.1)++l.take m/\acc.length+m=(je p l i s acc).steps.length/\∃ more,(je p l i s acc).steps=acc++more
 | [],i,s,acc=>⟨0,Nat.le_refl _,by simp [pN],by simp [pN],[],by simp [pN]⟩
 | t::r,i,s,acc=>by
  by_cases h1:mZ p s t=true
  ·by_cases h2:(jQ p s t.toNat).1=true
   ·rw [nU p t r i s acc h1 h2];obtain⟨m,q1,q2,q3,more,q4⟩:=ow p r (i+1) (jQ p s t.toNat).2 (acc++[(t,s.next t.toNat)]);refine⟨m+1,by simp;omega,by rw [q2];simp,by rw [<-q3];simp;omega,(t,s.next t.toNat)::more,by rw [q4];simp⟩
   ·have h3:(jQ p s t.toNat).1=false:=by simpa using h2
    rw [mT p t r i s acc h1 h3];exact⟨1,by simp,by simp,by simp,_,rfl⟩
  ·have h3:mZ p s t=false:=by simpa using h1
   rw [kq p t r i s acc h3];exact⟨0,by simp,by simp,by simp,[],by simp⟩
def atR(n:Nat):Code->Bool
 | .region k _ _=>Nat.beq k n
 | .seq a _=>atR n a
 | .block _ c=>atR n c
 | .scope c=>atR n c
 | .loop c=>atR n c
 | _=>false
def oJ(n:Nat):Code->Option Code
 | .seq a b=>match atR n a with
  | true=>some (.seq a b)
  | false=>match oJ n a with
   | some c=>some c
   | none=>oJ n b
 | .block _ c=>oJ n c
 | .scope c=>oJ n c
 | .loop c=>oJ n c
 | .cond _ a b=>match oJ n a with
  | some c=>some c
  | none=>oJ n b
 | _=>none
def oO(f:Func)(n:Nat):Code:=match f.body with
 | some c=>(oJ n c).getD .skip
 | none=> .skip
end
section
open Go.RowKit
attribute [local go_sem] Go.World.cell?_alloc_some
def vA(i:Ins):List Value:=[.int .i64 i.op,.int .i64 i.a,.int .i64 i.b,.int .i64 i.n]
def jk(c:List Ins):List Value:=c.flatMap vA
theorem pw(c:List Ins)(i:Ins):jk (c++[i])=jk c++vA i:=by simp [jk]
theorem qI:∀ (c:List Ins) (k:Nat) (hk:k<c.length),(jk c)[k*4]?=some (.int .i64 c[k].op)/\(jk c)[k*4+1]?=some (.int .i64 c[k].a)/\(jk c)[k*4+2]?=some (.int .i64 c[k].b)/\(jk c)[k*4+3]?=some (.int .i64 c[k].n)
 | [],k,hk=>by simp at hk
 | i::c,0,hk=>by simp [jk,vA]
 | i::c,k+1,hk=>by
  have h:=qI c k (by simpa using hk);have e:jk (i::c)=vA i++jk c:=by simp [jk]
  have e4:∀ j,(jk (i::c))[(k+1)*4+j]?=(jk c)[k*4+j]?:=fun j=>by
   rw [e,List.getElem?_append_right (by simp [vA];omega)];congr 1
   simp [vA];omega
  refine⟨?_,?_,?_,?_⟩
  ·have:=e4 0;simp only [Nat.add_zero]at this;rw [this];simpa using h.1
  ·rw [e4 1];simpa using h.2.1
  ·rw [e4 2];simpa using h.2.2.1
  ·rw [e4 3];simpa using h.2.2.2
def CodeRow(L B:Nat)(w:World)(v:Value)(c:List Ins):Prop:=w.ownsRow L 65 4 v c.length (jk c)/\∀ h,v.ownBlock=some h->h<B
theorem CodeRow.codeAt{L B:Nat}{w:World}{v:Value}{c:List Ins}(h:CodeRow L B w v c):CodeAt w v c:=by
 obtain⟨a,_⟩:=h;rcases a.2 with ⟨e,e0⟩ | ⟨g,cap,cur,hv,_⟩
 ·refine⟨none,0,by rw [e,e0],fun k hk=>by omega⟩
 ·refine⟨some ⟨g,0,none⟩,cap,hv,fun k hk=>⟨g,0,rfl,?_⟩⟩;rw [hv]at a;have q:=qI c k hk;refine⟨?_,?_,?_,?_⟩
  ·rw [Nat.zero_add,a.cellAt _ (by omega)];exact q.1
  ·rw [Nat.zero_add,a.cellAt _ (by omega)];exact q.2.1
  ·rw [Nat.zero_add,a.cellAt _ (by omega)];exact q.2.2.1
  ·rw [Nat.zero_add,a.cellAt _ (by omega)];exact q.2.2.2
theorem kA{w w':World}{base:Nat}{e:TypeId}{b:Nat}{v:Value}{n:Nat}{xs:List Value}{r:Option Nat}(h:w.ownsRow base e b v n xs)(i:w.grownBy w' r)(d:∀ k,r=some k->v.ownBlock≠some k):w'.ownsRow base e b v n xs:=by
 obtain⟨c,a⟩:=h;refine⟨c,?_⟩;rcases a with a | ⟨g,cap,cur,hv,hb,hh,rest⟩
 ·exact Or.inl a
 ·have f:g<w.heap.size:=(Array.getElem?_eq_some_iff.1 hh).1;refine Or.inr ⟨g,cap,cur,hv,hb,?_,rest⟩;rw [i.block g f (fun e=>d g e.symm (by rw [hv];rfl))];exact hh
theorem pH{w:World}{n p d c z1 j:Nat}{f h:Value}{q o:Nat}{x1 x2:List Value}(l:w.ownsRow n d z1 f q x1)(i:w.ownsRow p c j h o x2)(m:d≠c):∀ k,f.ownBlock=some k->h.ownBlock≠some k:=by
 intro k a b;rcases l.2 with ⟨e,_⟩ | ⟨g,_,c1,hv,_,hh,_⟩
 ·rw [e]at a;cases a
 ·rcases i.2 with ⟨e,_⟩ | ⟨g',_,c2,hv',_,hh',_⟩
  ·rw [e]at b;cases b
  ·rw [hv]at a;rw [hv']at b;have d:g=k:=by simpa [Value.ownBlock]using a
   have c:g'=k:=by simpa [Value.ownBlock]using b
   rw [d]at hh;rw [c,hh]at hh';simp at hh';exact m hh'.2
def Apt(rows:List Value):Prop:=∀ (i j:Nat) (ri rj:Value),i<j->rows[i]?=some ri->rows[j]?=some rj->∀ g,ri.ownBlock=some g->rj.ownBlock≠some g
theorem Apt.nil:Apt []:=fun i j ri rj _ h=>by simp at h
def ThrAt(L B:Nat)(w:World)(tv:Value)(p:List (List Ins)):Prop:=
 ∃ rows,w.ownsRow L 66 1 tv p.length rows/\(∀ h,tv.ownBlock=some h->h<B)/\(∀ j (hj:j<p.length),(∃ rv,rows[j]?=some rv/\CodeRow L B w rv p[j]))/\Apt rows
theorem ThrAt.step{L B:Nat}{w w':World}{tv:Value}{p:List (List Ins)}{r:Option Nat}(h:ThrAt L B w tv p)(b:w.grownBy w' r)(d:∀ q,r=some q->q<L\/B<=q):ThrAt L B w' tv p:=by
 obtain⟨rows,i,c,l,m⟩:=h;refine⟨rows,kA i b (fun k e a=>?_),c,fun j hj=>?_,m⟩
 ·have:=c k a;have:=iB i k a;rcases d k e with q | q<;>omega
 ·obtain⟨rv,n,a,f⟩:=l j hj;refine⟨rv,n,kA a b (fun k e e4=>?_),f⟩;have:=f k e4;have:=iB a k e4;rcases d k e with q | q<;>omega
theorem ThrAt.mono{L B b:Nat}{w:World}{tv:Value}{p:List (List Ins)}(h:ThrAt L B w tv p)(a:B<=b):ThrAt L b w tv p:=by
 obtain⟨rows,l,d,c,f⟩:=h;refine⟨rows,l,fun q e=>Nat.lt_of_lt_of_le (d q e) a,fun j hj=>?_,f⟩;obtain⟨rv,m,k,i⟩:=c j hj;exact⟨rv,m,k,fun q e=>Nat.lt_of_lt_of_le (i q e) a⟩
theorem ThrAt.progAt{L B:Nat}{w:World}{tv:Value}{p:List (List Ins)}(h:ThrAt L B w tv p):ProgAt w (.agg #[tv]) p:=by
 obtain⟨rows,a,h2,b,_⟩:=h;rcases a.2 with ⟨e,e0⟩ | ⟨g,cap,cur,hv,_⟩
 ·refine⟨none,0,by rw [e,e0],fun k hk=>by omega⟩
 ·refine⟨some ⟨g,0,none⟩,cap,by rw [hv],fun j hj=>⟨g,0,rfl,?_⟩⟩;obtain⟨rv,d,c⟩:=b j hj;rw [hv]at a;exact⟨rv,by rw [Nat.zero_add,a.cellAt j (by omega)];exact d,c.codeAt⟩
theorem ThrAt.snoc{L r B:Nat}{w A a:World}{tv t f:Value}{p:List (List Ins)}{c:List Ins}{rows:List Value}(h:ThrAt L r w tv p)(I:r<=B)(M:∀ q,f.ownBlock=some q->r<=q)(D:w.ownsRow L 66 1 tv p.length rows)(N:CodeRow L B w f c)(y:w.grownBy A none)
  (F:A.grownBy a tv.ownBlock) (O:a.ownsRow L 66 1 t (p.length+1) (rows++[f])) (E:B<=a.heap.size) (P:∀ q,t.ownBlock=some q->q<a.heap.size):ThrAt L a.heap.size a t (p++[c]):=by
 obtain⟨b,m,h2,x,G⟩:=h;have J:b=rows:=by
  rcases m.2 with ⟨e,e0⟩ | ⟨g,cap,cur,hv,_,hh,_,_,_,ht1⟩
  ·have o:=m.1;have u:=D.1
   rw [e0]at o u;rw [List.length_eq_zero_iff.1 (by omega:b.length=0),List.length_eq_zero_iff.1 (by omega:rows.length=0)]
  ·rcases D.2 with ⟨e,e0⟩ | ⟨g',cap',cur',hv',_,hh',_,_,_,ht2⟩
   ·rw [e]at hv;cases hv
   ·rw [hv]at hv';simp at hv';obtain⟨d,z⟩:=hv';rw [<-d,hh]at hh';simp at hh';rw [<-ht1,<-ht2,hh']
 subst J;have C:∀ {rv:Value} {c:List Ins},CodeRow L B w rv c->CodeRow L a.heap.size a rv c:=fun {rv c} hc=>by
  have o:=kA hc.1 y (fun k e=>by cases e);have u:=kA m y (fun k e=>by cases e);exact⟨kA o F (fun k e=>pH u o (by decide) k e),fun q e=>Nat.lt_of_lt_of_le (hc.2 q e) E⟩
 have K:b.length=p.length:=by have:=m.1;omega
 refine⟨b++[f],by simpa using O,P,fun j hj=>?_,fun i j ri rj hij hi hj g e e'=>?_⟩
 ·by_cases n:j<p.length
  ·obtain⟨rv,d,z,v⟩:=x j n;exact⟨rv,by rw [List.getElem?_append_left (by omega)];exact d,by rw [List.getElem_append_left n];exact C ⟨z,fun q e=>Nat.lt_of_lt_of_le (v q e) I⟩⟩
  ·have s:j=p.length:=by simp at hj;omega
   subst s;exact⟨f,by rw [List.getElem?_append_right (by omega)];simp [K],by simpa using C N⟩
 ·have H:=(List.getElem?_eq_some_iff.1 hj).1;simp only [List.length_append,List.length_singleton]at H;rw [List.getElem?_append_left (by omega)]at hi;by_cases n:j<b.length
  ·rw [List.getElem?_append_left n]at hj;exact G i j ri rj hij hi hj g e e'
  ·have s:j=b.length:=by omega
   subst s;rw [List.getElem?_append_right (Nat.le_refl _)]at hj;simp at hj;subst hj;obtain⟨rv,d,_,v⟩:=x i (by omega);rw [hi]at d;cases d
   have:=v g e;have:=M g e';omega
theorem vX:((Tryz.prog.info? 65).map fun i=>(i.zero,i.size,i.bytes))=some (some (.agg #[.int .i64 0,.int .i64 0,.int .i64 0,.int .i64 0]),4,32):=by kernel_rfl
theorem A1:((Tryz.prog.info? 66).map fun i=>(i.zero,i.size,i.bytes))=some (some (.slice none 0 0),1,24):=by kernel_rfl
def oM(c:Int):Prop:= -9223372036854775808<=c/\c<=9223372036854775807
theorem uR{w:World}{base e size:Nat}{v:Value}{n:Nat}{xs:List Value}(h:w.ownsRow base e size v n xs):∀ q,v.ownBlock=some q->q<w.heap.size:=fun q eq=>by
 rcases h.2 with ⟨e1,_⟩ | ⟨g',_,_,hv,_,hh,_⟩
 ·rw [e1]at eq;cases eq
 ·rw [hv]at eq;have:=(Array.getElem?_eq_some_iff.1 hh).1;simp [Value.ownBlock]at eq;omega
theorem BV(i:Ins):∀ v∈vA i,v.oneCell'=true:=by
 intro v a;simp only [vA,List.mem_cons,List.not_mem_nil,or_false]at a
 rcases a with rfl | rfl | rfl | rfl<;>rfl
end
end Go.Proofs.YtklenjmfalljgabGreatDoor
