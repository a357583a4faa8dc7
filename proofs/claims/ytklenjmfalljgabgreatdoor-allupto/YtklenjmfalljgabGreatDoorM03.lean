/- The texts Clo Clo2 Clo4 Mem Act. -/
import Derived.Test.YtklenjmfalljgabGreatDoorM00
import Derived.Test.YtklenjmfalljgabGreatDoorM01
import Derived.Test.YtklenjmfalljgabGreatDoorM02
import Derived.Test.YtklenjmfalljgabGreatDoorProg
import Derived.WalkKit
import Derived.WalkSpells
import Derived.WalkLawsBesides
import Derived.RegionTactic
import Derived.BigRegion
import Derived.ChangeAlike
import Derived.BigQuiet
import Derived.Deep.QuietTactic
import Derived.Deep.RegionHeld3
import Derived.Laws.Rows
namespace Go.Proofs.YtklenjmfalljgabGreatDoor
set_option maxRecDepth 100000
set_option maxHeartbeats 8000000
section
open Go.RowKit
theorem AZ(t r:Nat)(ht:t<4)(hr:r<4)(n:Int)(b a d c:Nat)(w:World)(x:Value)
  (hn:w.cell? ⟨a,0,none⟩=some (.int .i64 n)) (htc:w.cell? ⟨d,0,none⟩=some (.int .i64 t)) (hrc:w.cell? ⟨c,0,none⟩=some (.int .i64 r))
  (hx:w.cell? ⟨b,10+t*4+r,none⟩=some x) (hf:w.frozen? ⟨b,10+t*4+r,none⟩=false):
  Calls Tryz.prog 148 #[.pointer (some ⟨b,0,none⟩),.pointer (some ⟨a,0,none⟩),.pointer (some ⟨d,0,none⟩),.pointer (some ⟨c,0,none⟩)] w
   fun e w'=>e= .returned (.bool true)/\Like w' (w.setCell ⟨b,10+t*4+r,none⟩ (.int .i64 n)):=by
 have h1:(0:Int)<=(t:Int):=by omega
 have h2:(t:Int)<4:=by omega
 have h3:(0:Int)<=(r:Int):=by omega
 have h4:(r:Int)<4:=by omega
 go_enter Tryz.func148,Tryz.ntmps148
 go_wp2
 go_region
 all_goals (go_wp2;go_ret;exact⟨rfl,rfl,rfl,rfl,rfl⟩)
theorem yB(t r v:Nat)(ht:t<4)(hr:r<4)(hv:v<4)(n:Int)(b d c a:Nat)(w:World)(x:Value)
  (hvc:w.cell? ⟨d,0,none⟩=some (.int .i64 v)) (htc:w.cell? ⟨c,0,none⟩=some (.int .i64 t)) (hrc:w.cell? ⟨a,0,none⟩=some (.int .i64 r))
  (hn:w.cell? ⟨b,v,none⟩=some (.int .i64 n))
  (hx:w.cell? ⟨b,10+t*4+r,none⟩=some x) (hf:w.frozen? ⟨b,10+t*4+r,none⟩=false):
  Calls Tryz.prog 149 #[.pointer (some ⟨b,0,none⟩),.pointer (some ⟨d,0,none⟩),.pointer (some ⟨c,0,none⟩),.pointer (some ⟨a,0,none⟩)] w
   fun e w'=>e= .returned (.bool true)/\Like w' (w.setCell ⟨b,10+t*4+r,none⟩ (.int .i64 n)):=by
 have h1:(0:Int)<=(t:Int):=by omega
 have h2:(t:Int)<4:=by omega
 have h3:(0:Int)<=(r:Int):=by omega
 have h4:(r:Int)<4:=by omega
 have h5:(0:Int)<=(v:Int):=by omega
 have h6:(v:Int)<4:=by omega
 go_enter Tryz.func149,Tryz.ntmps149
 go_wp2
 go_region
 all_goals (go_wp2;go_ret;exact⟨rfl,rfl,rfl,rfl,rfl⟩)
theorem wZ(t r v:Nat)(ht:t<4)(hr:r<4)(hv:v<4)(n:Int)(b d c a:Nat)(w:World)(x:Value)
  (hvc:w.cell? ⟨d,0,none⟩=some (.int .i64 v)) (htc:w.cell? ⟨c,0,none⟩=some (.int .i64 t)) (hrc:w.cell? ⟨a,0,none⟩=some (.int .i64 r))
  (hn:w.cell? ⟨b,10+t*4+r,none⟩=some (.int .i64 n))
  (hx:w.cell? ⟨b,v,none⟩=some x) (hf:w.frozen? ⟨b,v,none⟩=false):
  Calls Tryz.prog 150 #[.pointer (some ⟨b,0,none⟩),.pointer (some ⟨c,0,none⟩),.pointer (some ⟨a,0,none⟩),.pointer (some ⟨d,0,none⟩)] w
   fun e w'=>e= .returned (.bool true)/\Like w' (w.setCell ⟨b,v,none⟩ (.int .i64 n)):=by
 have h1:(0:Int)<=(t:Int):=by omega
 have h2:(t:Int)<4:=by omega
 have h3:(0:Int)<=(r:Int):=by omega
 have h4:(r:Int)<4:=by omega
 have h5:(0:Int)<=(v:Int):=by omega
 have h6:(v:Int)<4:=by omega
 go_enter Tryz.func150,Tryz.ntmps150
 go_wp2
 go_region
 all_goals (go_wp2;go_ret;exact⟨rfl,rfl,rfl,rfl,rfl⟩)
theorem yy(t r:Nat)(ht:t<4)(hr:r<4)(n y:Int)(b d h f:Nat)(w:World)(x:Value)
  (hnc:w.cell? ⟨d,0,none⟩=some (.int .i64 n)) (htc:w.cell? ⟨h,0,none⟩=some (.int .i64 t)) (hrc:w.cell? ⟨f,0,none⟩=some (.int .i64 r))
  (hy:w.cell? ⟨b,10+t*4+r,none⟩=some (.int .i64 y))
  (hx:w.cell? ⟨b,26+t,none⟩=some x) (hf:w.frozen? ⟨b,26+t,none⟩=false):
  Calls Tryz.prog 153 #[.pointer (some ⟨b,0,none⟩),.pointer (some ⟨h,0,none⟩),.pointer (some ⟨f,0,none⟩),.pointer (some ⟨d,0,none⟩)] w
   fun e w'=>e= .returned (.bool true)/\Like w' (if y=0 then w.setCell ⟨b,26+t,none⟩ (.int .i64 n) else w):=by
 have h1:(0:Int)<=(t:Int):=by omega
 have h2:(t:Int)<4:=by omega
 have h3:(0:Int)<=(r:Int):=by omega
 have h4:(r:Int)<4:=by omega
 by_cases a:(y==0)=true
 ·have c:y=0:=by simpa using a
  rw [if_pos c];have HZ:Hid (y=0):=c;clear c;go_enter Tryz.func153,Tryz.ntmps153
  go_wp2
  go_region
  all_goals (go_wp2;go_region)
  all_goals (go_wp2;go_ret;exact⟨rfl,rfl,rfl,rfl,rfl⟩)
 ·have hz2:(y==0)=false:=by simpa using a
  rw [if_neg (by simpa using a)];clear a;go_enter Tryz.func153,Tryz.ntmps153
  go_wp2
  go_region
  all_goals (go_wp2;go_ret;exact⟨rfl,rfl,rfl,rfl,rfl⟩)
theorem tx(t r:Nat)(ht:t<4)(hr:r<4)(y:Int)(b c a:Nat)(w:World)
  (htc:w.cell? ⟨c,0,none⟩=some (.int .i64 t)) (hrc:w.cell? ⟨a,0,none⟩=some (.int .i64 r))
  (hy:w.cell? ⟨b,10+t*4+r,none⟩=some (.int .i64 y)):
  Calls Tryz.prog 156 #[.pointer (some ⟨b,0,none⟩),.pointer (some ⟨c,0,none⟩),.pointer (some ⟨a,0,none⟩)] w
   fun e w'=>e= .returned (.bool (y !=0))/\Like w' w:=by
 have h1:(0:Int)<=(t:Int):=by omega
 have h2:(t:Int)<4:=by omega
 have h3:(0:Int)<=(r:Int):=by omega
 have h4:(r:Int)<4:=by omega
 go_enter Tryz.func156,Tryz.ntmps156
 go_wp2
 go_region
 all_goals (go_wp2;go_ret;exact⟨rfl,rfl,rfl,rfl,rfl⟩)
theorem zp(t l:Nat)(hl:l<3)(b c a:Nat)(w:World)(x y:Value)
  (htc:w.cell? ⟨c,0,none⟩=some (.int .i64 t)) (hlc:w.cell? ⟨a,0,none⟩=some (.int .i64 l))
  (hx:w.cell? ⟨b,4+l*2,none⟩=some x) (hf:w.frozen? ⟨b,4+l*2,none⟩=false)
  (hy:w.cell? ⟨b,4+l*2+1,none⟩=some y) (hf2:w.frozen? ⟨b,4+l*2+1,none⟩=false):
  Calls Tryz.prog 154 #[.pointer (some ⟨b,0,none⟩),.pointer (some ⟨c,0,none⟩),.pointer (some ⟨a,0,none⟩)] w
   fun e w'=>e= .returned (.bool true)/\Like w' ((w.setCell ⟨b,4+l*2,none⟩ (.bool true)).setCell ⟨b,4+l*2+1,none⟩ (.int .i64 t)):=by
 have h3:(0:Int)<=(l:Int):=by omega
 have h4:(l:Int)<3:=by omega
 go_enter Tryz.func154,Tryz.ntmps154
 go_wp2
 go_region
 all_goals (go_wp2;go_ret;exact⟨rfl,rfl,rfl,rfl,rfl⟩)
theorem nU(t l:Nat)(hl:l<3)(b a c:Nat)(w:World)
  (hmc:w.cell? ⟨a,0,none⟩=some (.bool true)) (hmc2:w.cell? ⟨a,1,none⟩=some (.int .i64 t)) (hlc:w.cell? ⟨c,0,none⟩=some (.int .i64 l))
  (hx:w.cell? ⟨b,4+l*2,none⟩=some (.bool true)) (hf:w.frozen? ⟨b,4+l*2,none⟩=false)
  (hy:w.cell? ⟨b,4+l*2+1,none⟩=some (.int .i64 t)) (hf2:w.frozen? ⟨b,4+l*2+1,none⟩=false):
  Calls Tryz.prog 155 #[.pointer (some ⟨b,0,none⟩),.pointer (some ⟨c,0,none⟩),.pointer (some ⟨a,0,none⟩)] w
   fun e w'=>e= .returned (.bool true)/\Like w' ((w.setCell ⟨b,4+l*2,none⟩ (.bool false)).setCell ⟨b,4+l*2+1,none⟩ (.int .i64 0)):=by
 have h3:(0:Int)<=(l:Int):=by omega
 have h4:(l:Int)<3:=by omega
 go_enter Tryz.func155,Tryz.ntmps155
 go_wp2
 go_region
 all_goals (go_wp2;go_region)
 all_goals (go_wp2;go_ret;exact⟨rfl,rfl,rfl,rfl,rfl⟩)
theorem nz(t l:Nat)(hl:l<3)(b a c:Nat)(w:World)(o:Int)
  (hmc:w.cell? ⟨a,0,none⟩=some (.bool true)) (hmc2:w.cell? ⟨a,1,none⟩=some (.int .i64 t)) (hlc:w.cell? ⟨c,0,none⟩=some (.int .i64 l))
  (hx:w.cell? ⟨b,4+l*2,none⟩=some (.bool false))
  (hy:w.cell? ⟨b,4+l*2+1,none⟩=some (.int .i64 o)):
  Calls Tryz.prog 155 #[.pointer (some ⟨b,0,none⟩),.pointer (some ⟨c,0,none⟩),.pointer (some ⟨a,0,none⟩)] w
   fun e w'=>e= .returned (.bool false)/\Like w' w:=by
 have h3:(0:Int)<=(l:Int):=by omega
 have h4:(l:Int)<3:=by omega
 go_enter Tryz.func155,Tryz.ntmps155
 go_wp2
 go_region
 all_goals (go_wp2;go_ret;exact⟨rfl,rfl,rfl,rfl,rfl⟩)
theorem o9(t l:Nat)(hl:l<3)(b a c:Nat)(w:World)(o:Int)(ho:¬o=t)
  (hmc:w.cell? ⟨a,0,none⟩=some (.bool true)) (hmc2:w.cell? ⟨a,1,none⟩=some (.int .i64 t)) (hlc:w.cell? ⟨c,0,none⟩=some (.int .i64 l))
  (hx:w.cell? ⟨b,4+l*2,none⟩=some (.bool true))
  (hy:w.cell? ⟨b,4+l*2+1,none⟩=some (.int .i64 o)):
  Calls Tryz.prog 155 #[.pointer (some ⟨b,0,none⟩),.pointer (some ⟨c,0,none⟩),.pointer (some ⟨a,0,none⟩)] w
   fun e w'=>e= .returned (.bool false)/\Like w' w:=by
 have h3:(0:Int)<=(l:Int):=by omega
 have h4:(l:Int)<3:=by omega
 go_enter Tryz.func155,Tryz.ntmps155
 go_wp2
 go_region
 all_goals (go_wp2;go_ret;exact⟨rfl,rfl,rfl,rfl,rfl⟩)
theorem tJ(t a c:Nat)(ht:t<4)(hr:a<4)(hv:c<4)(b h d f:Nat)(w:World)
  (htc:w.cell? ⟨h,0,none⟩=some (.int .i64 t)) (_hac:w.cell? ⟨d,0,none⟩=some (.int .i64 a)) (hcc:w.cell? ⟨f,0,none⟩=some (.int .i64 c))
  (hy:w.cell? ⟨b,10+t*4+c,none⟩=some (.int .i64 0)):
  Calls Tryz.prog 152 #[.pointer (some ⟨b,0,none⟩),.pointer (some ⟨h,0,none⟩),.pointer (some ⟨f,0,none⟩),.pointer (some ⟨d,0,none⟩)] w
   fun e w'=>e= .returned (.bool false)/\Like w' w:=by
 have h1:(0:Int)<=(t:Int):=by omega
 have h2:(t:Int)<4:=by omega
 have h3:(0:Int)<=(a:Int):=by omega
 have h4:(a:Int)<4:=by omega
 have h5:(0:Int)<=(c:Int):=by omega
 have h6:(c:Int)<4:=by omega
 go_enter Tryz.func152,Tryz.ntmps152
 go_wp2
 go_region
 all_goals (go_wp2;go_ret;exact⟨rfl,rfl,rfl,rfl,rfl⟩)
theorem se(t a c:Nat)(ht:t<4)(hr:a<4)(hv:c<4)(x y:Int)(i:(y==0)=false)(b h d f:Nat)(w:World)
  (htc:w.cell? ⟨h,0,none⟩=some (.int .i64 t)) (hac:w.cell? ⟨d,0,none⟩=some (.int .i64 a)) (hcc:w.cell? ⟨f,0,none⟩=some (.int .i64 c))
  (hx:w.cell? ⟨b,10+t*4+a,none⟩=some (.int .i64 x)) (hy:w.cell? ⟨b,10+t*4+c,none⟩=some (.int .i64 y)) (hf:w.frozen? ⟨b,10+t*4+a,none⟩=false):
  Calls Tryz.prog 152 #[.pointer (some ⟨b,0,none⟩),.pointer (some ⟨h,0,none⟩),.pointer (some ⟨f,0,none⟩),.pointer (some ⟨d,0,none⟩)] w
   fun e w'=>e= .returned (.bool true)/\Like w' (w.setCell ⟨b,10+t*4+a,none⟩ (.int .i64 (wrap64 (x.tdiv y)))):=by
 have h1:(0:Int)<=(t:Int):=by omega
 have h2:(t:Int)<4:=by omega
 have h3:(0:Int)<=(a:Int):=by omega
 have h4:(a:Int)<4:=by omega
 have h5:(0:Int)<=(c:Int):=by omega
 have h6:(c:Int)<4:=by omega
 have h7:¬y=0:=by simpa using i
 go_enter Tryz.func152,Tryz.ntmps152
 go_wp2
 go_region
 all_goals (go_wp2;go_region)
 all_goals (go_wp2;go_ret;exact⟨rfl,rfl,rfl,rfl,rfl⟩)
def St.cells(s:St):Array Value:= #[.int .i64 (s.vars 0),.int .i64 (s.vars 1),.int .i64 (s.vars 2),.int .i64 (s.vars 3),
 .bool (s.held 0),.int .i64 (s.own 0),.bool (s.held 1),.int .i64 (s.own 1),.bool (s.held 2),.int .i64 (s.own 2),
 .int .i64 (s.regs 0 0),.int .i64 (s.regs 0 1),.int .i64 (s.regs 0 2),.int .i64 (s.regs 0 3),.int .i64 (s.regs 1 0),.int .i64 (s.regs 1 1),.int .i64 (s.regs 1 2),.int .i64 (s.regs 1 3),
 .int .i64 (s.regs 2 0),.int .i64 (s.regs 2 1),.int .i64 (s.regs 2 2),.int .i64 (s.regs 2 3),.int .i64 (s.regs 3 0),.int .i64 (s.regs 3 1),.int .i64 (s.regs 3 2),.int .i64 (s.regs 3 3),
 .int .i64 (s.next 0),.int .i64 (s.next 1),.int .i64 (s.next 2),.int .i64 (s.next 3)]
def StAt(w:World)(b:Nat)(s:St):Prop:=w.heap[b]?=some (.cells s.cells 122 (0,0))
theorem lt4{t:Nat}(h:t<4):t=0\/t=1\/t=2\/t=3:=by omega
theorem lt3{t:Nat}(h:t<3):t=0\/t=1\/t=2:=by omega
theorem StAt.cell{w:World}{b:Nat}{s:St}(h:StAt w b s)(o:Nat):w.cell? ⟨b,o,none⟩=s.cells[o]?:=by
 unfold StAt at h;simp [World.cell?,h]
theorem StAt.frozen{w:World}{b:Nat}{s:St}(h:StAt w b s)(o:Nat):w.frozen? ⟨b,o,none⟩=false:=by
 unfold StAt at h;simp [World.frozen?,h]
theorem StAt.var{w:World}{b:Nat}{s:St}(h:StAt w b s){v:Nat}(a:v<4):w.cell? ⟨b,v,none⟩=some (.int .i64 (s.vars v)):=by
 rw [h.cell];rcases lt4 a with rfl | rfl | rfl | rfl<;>rfl
theorem StAt.held{w:World}{b:Nat}{s:St}(h:StAt w b s){l:Nat}(a:l<3):w.cell? ⟨b,4+l*2,none⟩=some (.bool (s.held l)):=by
 rw [h.cell];rcases lt3 a with rfl | rfl | rfl<;>rfl
theorem StAt.own{w:World}{b:Nat}{s:St}(h:StAt w b s){l:Nat}(a:l<3):w.cell? ⟨b,4+l*2+1,none⟩=some (.int .i64 (s.own l)):=by
 rw [h.cell];rcases lt3 a with rfl | rfl | rfl<;>rfl
theorem StAt.reg{w:World}{b:Nat}{s:St}(h:StAt w b s){t r:Nat}(c:t<4)(a:r<4):w.cell? ⟨b,10+t*4+r,none⟩=some (.int .i64 (s.regs t r)):=by
 rw [h.cell];rcases lt4 c with rfl | rfl | rfl | rfl<;>rcases lt4 a with rfl | rfl | rfl | rfl<;>rfl
theorem StAt.next{w:World}{b:Nat}{s:St}(h:StAt w b s){t:Nat}(a:t<4):w.cell? ⟨b,26+t,none⟩=some (.int .i64 (s.next t)):=by
 rw [h.cell];rcases lt4 a with rfl | rfl | rfl | rfl<;>rfl
theorem jD(s:St){t r:Nat}(b:t<4)(a:r<4)(v:Int):s.cells.setIfInBounds (10+t*4+r) (.int .i64 v)=(s.setReg t r v).cells:=by
 rcases lt4 b with rfl | rfl | rfl | rfl<;>rcases lt4 a with rfl | rfl | rfl | rfl<;>rfl
theorem qK(s:St){x:Nat}(a:x<4)(v:Int):s.cells.setIfInBounds x (.int .i64 v)=(s.setVar x v).cells:=by
 rcases lt4 a with rfl | rfl | rfl | rfl<;>rfl
theorem l8(s:St){x:Nat}(a:x<4)(v:Int):s.cells.setIfInBounds (26+x) (.int .i64 v)=(s.setNext x v).cells:=by
 rcases lt4 a with rfl | rfl | rfl | rfl<;>rfl
theorem lZ(s:St){l:Nat}(a:l<3)(h:Bool)(o:Int):(s.cells.setIfInBounds (4+l*2) (.bool h)).setIfInBounds (4+l*2+1) (.int .i64 o)=(s.setLock l h o).cells:=by
 rcases lt3 a with rfl | rfl | rfl<;>rfl
theorem StAt.setCell{w:World}{b:Nat}{s a:St}{o:Nat}{v:Value}(h:StAt w b s)(e:s.cells.setIfInBounds o v=a.cells):StAt (w.setCell ⟨b,o,none⟩ v) b a:=by
 unfold StAt at*;rw [heap_setCell_same w b o _ _ v h,e]
theorem StAt.setCell2{w:World}{b:Nat}{s d:St}{o a:Nat}{v c:Value}(h:StAt w b s)(e:(s.cells.setIfInBounds o v).setIfInBounds a c=d.cells):StAt ((w.setCell ⟨b,o,none⟩ v).setCell ⟨b,a,none⟩ c) b d:=by
 unfold StAt at*;rw [heap_setCell_same _ b a _ _ c (heap_setCell_same w b o _ _ v h),e]
theorem StAt.like{w w':World}{b:Nat}{s:St}(h:StAt w b s)(hl:Like w' w):StAt w' b s:=by unfold StAt at*;rw [hl.1];exact h
theorem ir(w:World)(r:Option Nat):w.grownBy w r:=⟨rfl,rfl,rfl,Nat.le_refl _,fun _ _ _=>rfl⟩
theorem iR{w w' w'':World}{r:Option Nat}(h:w.grownBy w' r)(hl:Like w'' w'):w.grownBy w'' r:=
 ⟨hl.2.1.trans h.os,hl.2.2.2.trans h.tape,hl.2.2.1.trans h.output,by rw [hl.1];exact h.size,fun k hk hr=>by rw [hl.1];exact h.block k hk hr⟩
theorem il{w w' w'':World}{r:Option Nat}(h:w.grownBy w' r)(h':w'.grownBy w'' r):w.grownBy w'' r:=
 ⟨h'.os.trans h.os,h'.tape.trans h.tape,h'.output.trans h.output,Nat.le_trans h.size h'.size,fun k hk hr=>(h'.block k (Nat.lt_of_lt_of_le hk h.size) hr).trans (h.block k hk hr)⟩
theorem iM{w:World}{b o:Nat}{v:Value}:w.grownBy (w.setCell ⟨b,o,none⟩ v) (some b):=
 ⟨rfl,rfl,rfl,by simp,fun k _ hr=>Below.heap_setCell w _ v k (by simpa using hr)⟩
theorem oJ{w:World}{b o o':Nat}{v v':Value}:w.grownBy ((w.setCell ⟨b,o,none⟩ v).setCell ⟨b,o',none⟩ v') (some b):=il iM iM
def Does(w:World)(v:Value)(b:Nat)(R:Bool->World->Prop):Prop:=
 ∃ k caps,v= .func (.func k) #[] caps/\(∀ args w,(callFunc k args).run Tryz.prog w= .ok (.enter k args) w)/\
  Calls Tryz.prog k (#[.pointer (some ⟨b,0,none⟩)]++caps) w fun e w'=>∃ r,e= .returned (.bool r)/\R r w'
def pt(b:Nat):Value:= .pointer (some ⟨b,0,none⟩)
def ActIs(B:Nat)(w:World)(v:Value)(t:Nat)(i:Ins):Prop:=
 ∃ x y z u:Nat,x<B/\y<B/\z<B/\u<B/\
 ((i.op=1/\v= .func (.func 148) #[] #[pt x,pt y,pt z]/\w.cell? ⟨x,0,none⟩=some (.int .i64 i.n)/\w.cell? ⟨y,0,none⟩=some (.int .i64 t)/\w.cell? ⟨z,0,none⟩=some (.int .i64 i.a))\/
  (i.op=2/\v= .func (.func 149) #[] #[pt x,pt y,pt z]/\w.cell? ⟨x,0,none⟩=some (.int .i64 i.b)/\w.cell? ⟨y,0,none⟩=some (.int .i64 t)/\w.cell? ⟨z,0,none⟩=some (.int .i64 i.a))\/
  (i.op=3/\v= .func (.func 150) #[] #[pt x,pt y,pt z]/\w.cell? ⟨x,0,none⟩=some (.int .i64 t)/\w.cell? ⟨y,0,none⟩=some (.int .i64 i.b)/\w.cell? ⟨z,0,none⟩=some (.int .i64 i.a))\/
  (∃ f,(i.op=4/\f=114\/i.op=5/\f=115\/i.op=6/\f=116)/\v= .func (.func 151) #[] #[pt x,pt y,pt z,pt u]/\w.cell? ⟨x,0,none⟩=some (.func (.func f) #[] #[])/\w.cell? ⟨y,0,none⟩=some (.int .i64 t)/\w.cell? ⟨z,0,none⟩=some (.int .i64 i.a)/\w.cell? ⟨u,0,none⟩=some (.int .i64 i.b))\/
  (i.op=7/\v= .func (.func 152) #[] #[pt x,pt y,pt z]/\w.cell? ⟨x,0,none⟩=some (.int .i64 t)/\w.cell? ⟨y,0,none⟩=some (.int .i64 i.b)/\w.cell? ⟨z,0,none⟩=some (.int .i64 i.a))\/
  (i.op=8/\v= .func (.func 153) #[] #[pt x,pt y,pt z]/\w.cell? ⟨x,0,none⟩=some (.int .i64 t)/\w.cell? ⟨y,0,none⟩=some (.int .i64 i.a)/\w.cell? ⟨z,0,none⟩=some (.int .i64 i.n))\/
  (i.op=9/\v= .func (.func 154) #[] #[pt x,pt y]/\w.cell? ⟨x,0,none⟩=some (.int .i64 t)/\w.cell? ⟨y,0,none⟩=some (.int .i64 i.a))\/
  (i.op=10/\v= .func (.func 155) #[] #[pt x,pt y]/\w.cell? ⟨x,0,none⟩=some (.int .i64 i.a)/\w.cell? ⟨y,0,none⟩=some (.bool true)/\w.cell? ⟨y,1,none⟩=some (.int .i64 t))\/
  (i.op=11/\v= .func (.func 156) #[] #[pt x,pt y]/\w.cell? ⟨x,0,none⟩=some (.int .i64 t)/\w.cell? ⟨y,0,none⟩=some (.int .i64 i.a)))
theorem ActIs.of_block{B:Nat}{w w':World}{v:Value}{t:Nat}{i:Ins}(h:ActIs B w v t i)(a:∀ k,k<B->w'.heap[k]?=w.heap[k]?):ActIs B w' v t i:=by
 obtain⟨x,y,z,u,c,d,e,b,h⟩:=h;have j:∀ o,w'.cell? ⟨x,o,none⟩=w.cell? ⟨x,o,none⟩:=fun o=>World.cell?_of_block (a x c)
 have l:∀ o,w'.cell? ⟨y,o,none⟩=w.cell? ⟨y,o,none⟩:=fun o=>World.cell?_of_block (a y d)
 have m:∀ o,w'.cell? ⟨z,o,none⟩=w.cell? ⟨z,o,none⟩:=fun o=>World.cell?_of_block (a z e)
 have f:∀ o,w'.cell? ⟨u,o,none⟩=w.cell? ⟨u,o,none⟩:=fun o=>World.cell?_of_block (a u b)
 exact⟨x,y,z,u,c,d,e,b,by simpa only [j,l,m,f]using h⟩
theorem ActIs.mono{B a:Nat}{w:World}{v:Value}{t:Nat}{i:Ins}(h:ActIs B w v t i)(hb:B<=a):ActIs a w v t i:=by
 obtain⟨x,y,z,u,hx,hy,hz,hu,h⟩:=h;exact⟨x,y,z,u,by omega,by omega,by omega,by omega,h⟩
def Acted(b:Nat)(w:World)(t:Nat)(i:Ins)(s:St)(r:Bool)(w':World):Prop:=r=(act t i s).1/\StAt w' b (act t i s).2/\w.grownBy w' (some b)
theorem jy{w:World}{b k:Nat}{caps:Array Value}{R:Bool->World->Prop}{r:Bool}{w0:World}(hk:∀ args w,(callFunc k args).run Tryz.prog w= .ok (.enter k args) w)
  (hc:Calls Tryz.prog k (#[.pointer (some ⟨b,0,none⟩)]++caps) w fun e w'=>e= .returned (.bool r)/\Like w' w0) (hR:∀ w',Like w' w0->R r w'):Does w (.func (.func k) #[] caps) b R:=
 ⟨k,caps,rfl,hk,hc.mono fun _e w' ⟨he,hl⟩=>⟨r,he,hR w' hl⟩⟩
theorem Acted.mk{b t:Nat}{w w0 w':World}{i:Ins}{s s':St}{r:Bool}(ha:act t i s=(r,s'))(hs:StAt w0 b s')(hg:w.grownBy w0 (some b))(hl:Like w' w0):Acted b w t i s r w':=
 ⟨by rw [ha],by rw [ha];exact hs.like hl,iR hg hl⟩
theorem xq{B:Nat}{w:World}{v:Value}{t:Nat}{i:Ins}{len:Int}{b:Nat}{s:St}(j:t<4)(F:vIns i len=true)(h:ActIs B w v t i)(c:StAt w b s):
  Does w v b (Acted b w t i s):=by
 obtain⟨x,y,z,u,_,_,_,_,h⟩:=h;have hsay:=lJ F;rcases h with ⟨e,rfl,h1,h2,h3⟩ | ⟨e,rfl,h1,h2,h3⟩ | ⟨e,rfl,h1,h2,h3⟩ | ⟨f,p,rfl,h1,h2,h3,h4⟩ | ⟨e,rfl,h1,h2,h3⟩ | ⟨e,rfl,h1,h2,h3⟩ | ⟨e,rfl,h1,h2⟩ | ⟨e,rfl,h1,h2,h3⟩ | ⟨e,rfl,h1,h2⟩
 ·have q:0<=i.a/\i.a<4:=by omega
  have k:((i.a.toNat:Nat):Int)=i.a:=by omega
  rw [<-k]at h3;have d:i.a.toNat<4:=by omega
  exact jy Tryz.call148 (AZ t i.a.toNat j d i.n b x y z w _ h1 h2 h3 (c.reg j d) (c.frozen _))
   fun w' hl=>Acted.mk (by simp [act,e]) (c.setCell (jD s j d _)) iM hl
 ·have q:0<=i.a/\i.a<4/\0<=i.b/\i.b<4:=by omega
  have k:((i.a.toNat:Nat):Int)=i.a:=by omega
  have r:((i.b.toNat:Nat):Int)=i.b:=by omega
  rw [<-k]at h3;rw [<-r]at h1
  have d:i.a.toNat<4:=by omega
  have l:i.b.toNat<4:=by omega
  exact jy Tryz.call149 (yB t i.a.toNat i.b.toNat j d l _ b x y z w _ h1 h2 h3 (c.var l) (c.reg j d) (c.frozen _))
   fun w' hl=>Acted.mk (by simp [act,e]) (c.setCell (jD s j d _)) iM hl
 ·have q:0<=i.a/\i.a<4/\0<=i.b/\i.b<4:=by omega
  have k:((i.a.toNat:Nat):Int)=i.a:=by omega
  have r:((i.b.toNat:Nat):Int)=i.b:=by omega
  rw [<-k]at h3;rw [<-r]at h2
  have d:i.a.toNat<4:=by omega
  have l:i.b.toNat<4:=by omega
  exact jy Tryz.call150 (wZ t i.b.toNat i.a.toNat j l d _ b z x y w _ h3 h1 h2 (c.reg j l) (c.var d) (c.frozen _))
   fun w' hl=>Acted.mk (by simp [act,e]) (c.setCell (qK s d _)) iM hl
 ·have hop:i.op=4\/i.op=5\/i.op=6:=by rcases p with p | p | p<;>simp [p.1]
  have q:0<=i.a/\i.a<4/\0<=i.b/\i.b<4:=by omega
  have k:((i.a.toNat:Nat):Int)=i.a:=by omega
  have r:((i.b.toNat:Nat):Int)=i.b:=by omega
  rw [<-k]at h3;rw [<-r]at h4
  have d:i.a.toNat<4:=by omega
  have l:i.b.toNat<4:=by omega
  rcases p with ⟨e,rfl⟩ | ⟨e,rfl⟩ | ⟨e,rfl⟩
  ·exact jy Tryz.call151 (zI t i.a.toNat i.b.toNat j d l _ _ b x y z u w h1 h2 h3 h4 (c.reg j d) (c.reg j l) (c.frozen _))
    fun w' hl=>Acted.mk (by simp [act,e]) (c.setCell (jD s j d _)) iM hl
  ·exact jy Tryz.call151 (Ba t i.a.toNat i.b.toNat j d l _ _ b x y z u w h1 h2 h3 h4 (c.reg j d) (c.reg j l) (c.frozen _))
    fun w' hl=>Acted.mk (by simp [act,e]) (c.setCell (jD s j d _)) iM hl
  ·exact jy Tryz.call151 (AC t i.a.toNat i.b.toNat j d l _ _ b x y z u w h1 h2 h3 h4 (c.reg j d) (c.reg j l) (c.frozen _))
    fun w' hl=>Acted.mk (by simp [act,e]) (c.setCell (jD s j d _)) iM hl
 ·have q:0<=i.a/\i.a<4/\0<=i.b/\i.b<4:=by omega
  have k:((i.a.toNat:Nat):Int)=i.a:=by omega
  have r:((i.b.toNat:Nat):Int)=i.b:=by omega
  rw [<-k]at h3;rw [<-r]at h2
  have d:i.a.toNat<4:=by omega
  have l:i.b.toNat<4:=by omega
  by_cases o:s.regs t i.b.toNat=0
  ·have E:=c.reg j l;rw [o]at E;exact jy Tryz.call152 (tJ t i.a.toNat i.b.toNat j d l b x z y w h1 h3 h2 E)
    fun w' hl=>Acted.mk (by simp [act,e,o]) c (ir _ _) hl
  ·exact jy Tryz.call152 (se t i.a.toNat i.b.toNat j d l _ _ (by simpa using o) b x z y w h1 h3 h2 (c.reg j d) (c.reg j l) (c.frozen _))
    fun w' hl=>Acted.mk (by simp [act,e,o]) (c.setCell (jD s j d _)) iM hl
 ·have q:0<=i.a/\i.a<4:=by omega
  have k:((i.a.toNat:Nat):Int)=i.a:=by omega
  rw [<-k]at h2;have d:i.a.toNat<4:=by omega
  refine jy Tryz.call153 (yy t i.a.toNat j d i.n _ b z x y w _ h3 h1 h2 (c.reg j d) (c.next j) (c.frozen _)) fun w' hl=>?_
  by_cases o:s.regs t i.a.toNat=0
  ·rw [if_pos o]at hl;exact Acted.mk (by simp [act,e,o]) (c.setCell (l8 s j _)) iM hl
  ·rw [if_neg o]at hl;exact Acted.mk (by simp [act,e,o]) c (ir _ _) hl
 ·have q:0<=i.a/\i.a<3:=by omega
  have k:((i.a.toNat:Nat):Int)=i.a:=by omega
  rw [<-k]at h2;have m:i.a.toNat<3:=by omega
  exact jy Tryz.call154 (zp t i.a.toNat m b x y w _ _ h1 h2 (c.held m) (c.frozen _) (c.own m) (c.frozen _))
   fun w' hl=>Acted.mk (by simp [act,e]) (c.setCell2 (lZ s m _ _)) oJ hl
 ·have q:0<=i.a/\i.a<3:=by omega
  have k:((i.a.toNat:Nat):Int)=i.a:=by omega
  rw [<-k]at h1;have m:i.a.toNat<3:=by omega
  by_cases A:s.held i.a.toNat=true
  ·have c1:=c.held m;rw [A]at c1;by_cases C:s.own i.a.toNat=t
   ·have D:=c.own m;rw [C]at D;exact jy Tryz.call155 (nU t i.a.toNat m b y x w h2 h3 h1 c1 (c.frozen _) D (c.frozen _))
     fun w' hl=>Acted.mk (by simp [act,e,A,C]) (c.setCell2 (lZ s m _ _)) oJ hl
   ·exact jy Tryz.call155 (o9 t i.a.toNat m b y x w _ C h2 h3 h1 c1 (c.own m))
     fun w' hl=>Acted.mk (by simp [act,e,A,C]) c (ir _ _) hl
  ·have p:s.held i.a.toNat=false:=by simpa using A
   have c1:=c.held m;rw [p]at c1;exact jy Tryz.call155 (nz t i.a.toNat m b y x w _ h2 h3 h1 c1 (c.own m))
    fun w' hl=>Acted.mk (by simp [act,e,p]) c (ir _ _) hl
 ·have q:0<=i.a/\i.a<4:=by omega
  have k:((i.a.toNat:Nat):Int)=i.a:=by omega
  rw [<-k]at h2;have d:i.a.toNat<4:=by omega
  exact jy Tryz.call156 (tx t i.a.toNat j d _ b x y w h1 h2 (c.reg j d))
   fun w' hl=>Acted.mk (by simp [act,e]) c (ir _ _) hl
end
end Go.Proofs.YtklenjmfalljgabGreatDoor
