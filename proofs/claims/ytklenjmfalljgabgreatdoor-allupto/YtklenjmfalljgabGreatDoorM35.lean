/- The texts Arg. -/
import Derived.Test.YtklenjmfalljgabGreatDoorM05
import Derived.Test.YtklenjmfalljgabGreatDoorRows
import Derived.Deep.Slices
import Derived.Deep.DeepHandedRow
import Derived.Deep.DeepWitnessRowRef
import Derived.LaidMore
import Derived.Carry
import Derived.ProofKit
import Derived.OpenShut
namespace Go.Proofs.YtklenjmfalljgabGreatDoor
set_option maxRecDepth 100000
set_option maxHeartbeats 8000000
section
open Go.ChangeShapes Go.WideShapes Go.ChangeAt Go.RowKit
theorem own:ownKnob Tryz.prog.godebug=none:=by kernel_rfl
theorem mM:laidOutB Tryz.prog=true:=by kernel_rfl
theorem Cl:Tryz.prog.globalNamed "rerun/machine.shapes" =some 0:=by kernel_rfl
theorem Co:(Tryz.prog.globals[0]?).map (·.type)=some 236:=by kernel_rfl
theorem B6:Tryz.prog.cellsOf 3=1:=by kernel_rfl
theorem B7:Tryz.prog.cellsOf 39=1:=by kernel_rfl
theorem By:Tryz.prog.cellsOf 235=3:=by kernel_rfl
theorem xF:Tryz.prog.cellsOf 233=1:=by kernel_rfl
theorem sj{w w':World}(h:w.grownBy w' none):Below w.heap.size w w':=⟨h.os,h.tape,h.output,h.size,fun k hk=>h.block k hk (by simp)⟩
theorem AB{w:World}{a:Addr}{v:Value}(h:w.cell? a=some v):a.block<w.heap.size:=by
 unfold World.cell? at h;split at h
 ·rename_i hh;exact(Array.getElem?_eq_some_iff.1 hh).1
 ·cases h
theorem jn{w:World}{a:Addr}{j:Nat}{v:Value}(c:a.spot=none)(h:w.cell? (a.add j)=some v):w.cell? ⟨a.block,a.off+j,none⟩=some v:=by
 have e:a.add j=⟨a.block,a.off+j,none⟩:=by
  obtain⟨b,o,s⟩:=a;simp only at c;subst c;unfold Addr.add;split<;>simp_all
 rw [e]at h;exact h
section
variable {H : Type} {enc : TypeId × Value -> H} {W : World}
theorem Ar{v:Value}{d:DataW H}{c:List MemPlace}{base:Nat}(a:Value.okWide Tryz.prog W .any base 3 v)(h:DataW.Trod enc Tryz.prog W 0 (fun _=>true) true 3 v d c):
  ∃ n,v= .int .i64 n/\isInt n:=by
 obtain⟨n,rfl,_,_,b⟩:=open_int Tryz.underlying3 a h;exact⟨n,rfl,by simpa [Lit.wf,IntKind.min,IntKind.max,IntKind.signed,IntKind.bits,isInt]using b⟩
end
theorem A8(o j:Nat)(ho:o<12)(hj:j<3)(l:List (DataW Unit))(h:(DataW.agg l:DataW Unit)=(match (Rows.laid_rerun_machine_shapes:DataW Unit)with | .agg l=>l[o]?.getD .nil | _=> .nil)):l[j]?=some (.lit (.int .i64 (shp o j))):=by
 have b:o=0\/o=1\/o=2\/o=3\/o=4\/o=5\/o=6\/o=7\/o=8\/o=9\/o=10\/o=11:=by omega
 have a:j=0\/j=1\/j=2:=by omega
 rcases b with rfl | rfl | rfl | rfl | rfl | rfl | rfl | rfl | rfl | rfl | rfl | rfl<;>(simp [Rows.laid_rerun_machine_shapes]at h;subst h;rcases a with rfl | rfl | rfl<;>rfl)
theorem A7{W:World}{h:Nat}{s:TypeId}{a:Array Value}{v:Nat}{J:List MemPlace}(n:Tryz.prog.globalNamed "rerun/machine.shapes" =some h)(F:(Tryz.prog.globals[h]?).map (·.type)=some s)(G:W.var? Tryz.prog "rerun/machine.shapes" =some a)
  (x:DataW.trod (fun _=>()) Tryz.prog W 0 (fun _=>true) false v s a.toList=some (Rows.laid_rerun_machine_shapes,J)):ShpAt W:=by
 obtain rfl:=Option.some.inj (Cl.symm.trans n);obtain rfl:=Option.some.inj (Co.symm.trans F);obtain⟨xs,m1,rfl,q,hlen,hn12,A⟩:=DataW.trod_array Tryz.underlying236 x;simp only [Prod.mk.injEq]at q;intro o j p e;have f:o<xs.length:=by omega
 have m:=A o p;rw [By,List.getElem?_eq_getElem f]at m;obtain⟨c,I,rfl,H,hylen,E,d⟩:=DataW.trod_struct Tryz.underlying235 m;have z:(DataW.agg (c.map (·.1)):DataW Unit)=xs[o].1:=by rw [H]
 have hxo:(xs.map (·.1))[o]?=some xs[o].1:=by simp [f]
 have y:(DataW.agg (c.map (·.1)):DataW Unit)=(match (Rows.laid_rerun_machine_shapes:DataW Unit)with | .agg l=>l[o]?.getD .nil | _=> .nil):=by
  rw [z,q.1];simp [f]
 have r:=A8 o j p e _ y;have b:j<c.length:=by rw [E];simpa using e
 have B:DataW.trod (fun _=>()) Tryz.prog W 0 (fun _=>true) false I 233 ((((a.toList.drop (o*3)).take 3).drop j).take 1)=some c[j]:=by
  have C:j=0\/j=1\/j=2:=by omega
  rcases C with rfl | rfl | rfl
  ·have:=d 0 _ rfl;rw [List.getElem?_eq_getElem b]at this;simpa [xF]using this
  ·have:=d 1 _ rfl;rw [List.getElem?_eq_getElem b]at this;simpa [xF]using this
  ·have:=d 2 _ rfl;rw [List.getElem?_eq_getElem b]at this;simpa [xF]using this
 obtain⟨k,t,u,_⟩:=DataW.trod_int Tryz.underlying233 B;have D:k=shp o j:=by
  rw [List.getElem?_map,List.getElem?_eq_getElem b,u]at r;simpa using r
 have w:=World.var?_cell n G (o*3+j);have hc:a[o*3+j]?=some (.int .i64 k):=by
  have i:=congrArg (fun l=>l[0]?) t;simp [e]at i;exact i
 rw [D]at hc;rw [w];exact hc
end
end Go.Proofs.YtklenjmfalljgabGreatDoor
