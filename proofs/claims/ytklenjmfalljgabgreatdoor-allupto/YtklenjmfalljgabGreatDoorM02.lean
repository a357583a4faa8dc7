/- The texts Clo3. -/
import Derived.Test.YtklenjmfalljgabGreatDoorM01
import Derived.Test.YtklenjmfalljgabGreatDoorProg
import Derived.WalkKit
import Derived.WalkSpells
import Derived.WalkLawsBesides
import Derived.RegionTactic
import Derived.BigRegion
import Derived.ChangeAlike
import Derived.BigQuiet
import Derived.Deep.QuietTactic
import Derived.StillTailTactics
namespace Go.Proofs.YtklenjmfalljgabGreatDoor
set_option maxRecDepth 100000
set_option maxHeartbeats 8000000
section
open Go.RowKit
theorem zJ(x y:Int)(w:World):Calls Tryz.prog 114 #[.int .i64 x,.int .i64 y] w fun e w'=>e= .returned (.int .i64 (wrap64 (x+y)))/\w'=w:=by
 go_enter Tryz.func114,Tryz.ntmps114
 go_wp2
 go_ret;exact⟨rfl,rfl⟩
theorem zI(t a c:Nat)(ht:t<4)(hr:a<4)(hv:c<4)(x y:Int)(b h i d f:Nat)(w:World)
  (hfc:w.cell? ⟨h,0,none⟩=some (.func (.func 114) #[] #[]))
  (htc:w.cell? ⟨i,0,none⟩=some (.int .i64 t)) (hac:w.cell? ⟨d,0,none⟩=some (.int .i64 a)) (hcc:w.cell? ⟨f,0,none⟩=some (.int .i64 c))
  (hx:w.cell? ⟨b,10+t*4+a,none⟩=some (.int .i64 x)) (hy:w.cell? ⟨b,10+t*4+c,none⟩=some (.int .i64 y)) (hf:w.frozen? ⟨b,10+t*4+a,none⟩=false):
  Calls Tryz.prog 151 #[.pointer (some ⟨b,0,none⟩),.pointer (some ⟨h,0,none⟩),.pointer (some ⟨i,0,none⟩),.pointer (some ⟨d,0,none⟩),.pointer (some ⟨f,0,none⟩)] w
   fun e w'=>e= .returned (.bool true)/\Like w' (w.setCell ⟨b,10+t*4+a,none⟩ (.int .i64 (wrap64 (x+y)))):=by
 have h1:(0:Int)<=(t:Int):=by omega
 have h2:(t:Int)<4:=by omega
 have h3:(0:Int)<=(a:Int):=by omega
 have h4:(a:Int)<4:=by omega
 have h5:(0:Int)<=(c:Int):=by omega
 have h6:(c:Int)<4:=by omega
 go_enter Tryz.func151,Tryz.ntmps151
 go_wp2
 refine wp_region_still_tail 25 (by kernel_rfl) (by kernel_rfl) ?_;simp only [List.take_succ_cons,List.take_zero,List.drop_succ_cons,List.drop_zero];iterate 20 still_step
 still_call (zJ _ _ _)
 iterate 4 still_step
 refine wpStill_nil ?_
 all_goals (go_wp2;go_ret;exact⟨rfl,rfl,rfl,rfl,rfl⟩)
theorem Bb(x y:Int)(w:World):Calls Tryz.prog 115 #[.int .i64 x,.int .i64 y] w fun e w'=>e= .returned (.int .i64 (wrap64 (x - y)))/\w'=w:=by
 go_enter Tryz.func115,Tryz.ntmps115
 go_wp2
 go_ret;exact⟨rfl,rfl⟩
theorem Ba(t a c:Nat)(ht:t<4)(hr:a<4)(hv:c<4)(x y:Int)(b h i d f:Nat)(w:World)
  (hfc:w.cell? ⟨h,0,none⟩=some (.func (.func 115) #[] #[]))
  (htc:w.cell? ⟨i,0,none⟩=some (.int .i64 t)) (hac:w.cell? ⟨d,0,none⟩=some (.int .i64 a)) (hcc:w.cell? ⟨f,0,none⟩=some (.int .i64 c))
  (hx:w.cell? ⟨b,10+t*4+a,none⟩=some (.int .i64 x)) (hy:w.cell? ⟨b,10+t*4+c,none⟩=some (.int .i64 y)) (hf:w.frozen? ⟨b,10+t*4+a,none⟩=false):
  Calls Tryz.prog 151 #[.pointer (some ⟨b,0,none⟩),.pointer (some ⟨h,0,none⟩),.pointer (some ⟨i,0,none⟩),.pointer (some ⟨d,0,none⟩),.pointer (some ⟨f,0,none⟩)] w
   fun e w'=>e= .returned (.bool true)/\Like w' (w.setCell ⟨b,10+t*4+a,none⟩ (.int .i64 (wrap64 (x - y)))):=by
 have h1:(0:Int)<=(t:Int):=by omega
 have h2:(t:Int)<4:=by omega
 have h3:(0:Int)<=(a:Int):=by omega
 have h4:(a:Int)<4:=by omega
 have h5:(0:Int)<=(c:Int):=by omega
 have h6:(c:Int)<4:=by omega
 go_enter Tryz.func151,Tryz.ntmps151
 go_wp2
 refine wp_region_still_tail 25 (by kernel_rfl) (by kernel_rfl) ?_;simp only [List.take_succ_cons,List.take_zero,List.drop_succ_cons,List.drop_zero];iterate 20 still_step
 still_call (Bb _ _ _)
 iterate 4 still_step
 refine wpStill_nil ?_
 all_goals (go_wp2;go_ret;exact⟨rfl,rfl,rfl,rfl,rfl⟩)
theorem AD(x y:Int)(w:World):Calls Tryz.prog 116 #[.int .i64 x,.int .i64 y] w fun e w'=>e= .returned (.int .i64 (wrap64 (x*y)))/\w'=w:=by
 go_enter Tryz.func116,Tryz.ntmps116
 go_wp2
 go_ret;exact⟨rfl,rfl⟩
theorem AC(t a c:Nat)(ht:t<4)(hr:a<4)(hv:c<4)(x y:Int)(b h i d f:Nat)(w:World)
  (hfc:w.cell? ⟨h,0,none⟩=some (.func (.func 116) #[] #[]))
  (htc:w.cell? ⟨i,0,none⟩=some (.int .i64 t)) (hac:w.cell? ⟨d,0,none⟩=some (.int .i64 a)) (hcc:w.cell? ⟨f,0,none⟩=some (.int .i64 c))
  (hx:w.cell? ⟨b,10+t*4+a,none⟩=some (.int .i64 x)) (hy:w.cell? ⟨b,10+t*4+c,none⟩=some (.int .i64 y)) (hf:w.frozen? ⟨b,10+t*4+a,none⟩=false):
  Calls Tryz.prog 151 #[.pointer (some ⟨b,0,none⟩),.pointer (some ⟨h,0,none⟩),.pointer (some ⟨i,0,none⟩),.pointer (some ⟨d,0,none⟩),.pointer (some ⟨f,0,none⟩)] w
   fun e w'=>e= .returned (.bool true)/\Like w' (w.setCell ⟨b,10+t*4+a,none⟩ (.int .i64 (wrap64 (x*y)))):=by
 have h1:(0:Int)<=(t:Int):=by omega
 have h2:(t:Int)<4:=by omega
 have h3:(0:Int)<=(a:Int):=by omega
 have h4:(a:Int)<4:=by omega
 have h5:(0:Int)<=(c:Int):=by omega
 have h6:(c:Int)<4:=by omega
 go_enter Tryz.func151,Tryz.ntmps151
 go_wp2
 refine wp_region_still_tail 25 (by kernel_rfl) (by kernel_rfl) ?_;simp only [List.take_succ_cons,List.take_zero,List.drop_succ_cons,List.drop_zero];iterate 20 still_step
 still_call (AD _ _ _)
 iterate 4 still_step
 refine wpStill_nil ?_
 all_goals (go_wp2;go_ret;exact⟨rfl,rfl,rfl,rfl,rfl⟩)
end
end Go.Proofs.YtklenjmfalljgabGreatDoor
