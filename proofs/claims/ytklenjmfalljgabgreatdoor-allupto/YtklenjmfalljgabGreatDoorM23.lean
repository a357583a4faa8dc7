/- The texts Rga Rgb. -/
import Derived.Test.YtklenjmfalljgabGreatDoorM21
import Derived.Test.YtklenjmfalljgabGreatDoorM22
import Derived.Lib.ConvBytes
namespace Go.Proofs.YtklenjmfalljgabGreatDoor
set_option maxRecDepth 100000
set_option maxHeartbeats 8000000
section
open Go.RowKit
attribute [local go_sem] Go.World.cell?_alloc_some
section
variable {P : Program} {ops : Array Oper} {Q : Exit -> Act -> World -> Prop} {S : World -> Prop} {n : Nat}
theorem nS{i j:Nat}{e l:Oper}{f:Nat}{b:Array Bool}{a:Act}{w:World}(q:ops[i]?=some e)(r:ops[j]?=some l)
  (d:Region.ready .any ops b=[i,j]) (c:(decide (i<n) && decide (j<n))=true) (s:Region.wanted e (yielded ops a.tmps)=true) (t:Region.wanted l (yielded ops a.tmps)=true)
  (o:∀ K:Act->World->Prop,(∀ a' w',S w'->(HeadInv .any ops n (b.setIfInBounds i true)->wpHead P ops Q S n f (b.setIfInBounds i true) a' w')->K a' w')->e.wp P a w K Q)
  (p:∀ K:Act->World->Prop,(∀ a' w',S w'->(HeadInv .any ops n (b.setIfInBounds j true)->wpHead P ops Q S n f (b.setIfInBounds j true) a' w')->K a' w')->l.wp P a w K Q):
  HeadInv .any ops n b->wpHead P ops Q S n (f+1) b a w:=by
 intro m;simp only [Bool.and_eq_true,decide_eq_true_eq]at c;refine⟨fun h=>(by rw [d]at h;cases h),fun k hk=>?_⟩;rw [d]at hk;simp only [List.mem_cons,List.not_mem_nil,or_false]at hk;rcases hk with rfl | rfl
 ·refine⟨c.1,?_⟩;unfold wpOp;simp only [q,s,if_true];exact Or.inl (o _ (fun a' w' hS hh=>⟨hS,hh (m.set (by rw [d];simp) c.1)⟩))
 ·refine⟨c.2,?_⟩;unfold wpOp;simp only [r,t,if_true];exact Or.inl (p _ (fun a' w' hS hh=>⟨hS,hh (m.set (by rw [d];simp) c.2)⟩))
end
theorem nY{w:World}{g:Nat}{x:Nat}(h:w.cell? ⟨g,0,none⟩=some (.int .u8 (x:Int))):(convert 147 9 (.slice (some ⟨g,0,none⟩) 1 1)).run Tryz.prog w= .ok (.string (bs [x])) w:=
 run_convert_bytes_arg w _ _ Tryz.underlying147 Tryz.underlying5 g 0 1 1 _ (by simp) (fun i hi=>by
  have hi':i=0:=by simp at hi;omega
  subst hi';rw [Nat.add_zero,h];simp) _ Tryz.underlying9
theorem jo{w w':World}(h:w.drew.grownBy w' none):w.grownBy w' none:=⟨h.os,h.tape,h.output,h.size,h.block⟩
theorem ui(w:World)(x:Nat):(match (w.alloc (.cells #[.int .u8 (x:Int)] 5)).heap[w.heap.size]? with | some (.cells cs _ _)=>cs[0]? | _=>none)=some (.int .u8 (x:Int)):=by rw [heap_alloc_new];rfl
theorem Bx(l m:List Nat):bs l++bs m=bs (l++m):=by
 apply ByteArray.ext;apply Array.ext';simp [bs,strOfNums_data]
theorem xG(l m:List Nat)(h:l.length+m.length<=9223372036854775807):Op.stringOp .add (bs l) (bs m)=pure (.string (bs (l++m))):=by
 unfold Op.stringOp;have:=nX l;have:=nX m;rw [if_neg (by simp only [IntKind.max,IntKind.signed,IntKind.bits];simp;omega),Bx]
theorem i6(n:Nat):∀ (w:World),n<18446744073709551616->Calls Tryz.prog 66 #[.int .u64 n] w fun e w'=>e= .returned (.string (bs (numB n)))/\w.grownBy w' none:=by
 induction n using Nat.strongRecOn with
 | ind n ih=>
  intro w hn;have A:=ij ih;clear ih;go_enter Tryz.func66,Tryz.ntmps66
  by_cases h:n<128
  ·have E:(n:Int)<128:=by omega
   have hmod:(n:Int) % 256=n:=by omega
   have m:(convert 147 9 (.slice (some ⟨w.heap.size,0,none⟩) 1 1)).run Tryz.prog (w.alloc (.cells #[.int .u8 (n:Int)] 5))= .ok (.string (bs [n])) (w.alloc (.cells #[.int .u8 (n:Int)] 5)):=nY (by simp only [World.cell?,heap_alloc_new];rfl);have q:Hid (numB n=[n]):=jO h;go_wp2_with fail
   go_ret;exact⟨by rw [q.out];rfl,iq (ir _ _)⟩
  ·have E:¬(n:Int)<128:=by omega
   have q:Hid (numB n=(n % 128+128)::numB (n / 128)):=kG h;have s:=ij (fun w'=>A.out (n / 128) (by omega) w' (by omega));go_wp2_with fail
   refine iz (fun _=>True) 10 (by kernel_rfl) (by kernel_rfl) trivial ?_;intro hHeld;refine ie 0 ?v0 rfl (by kernel_rfl) (fun _ _ _ h=>h) (by kernel_rfl) ?y0 trivial ?_
   case y0=>(intro u l;go_simp;try rfl)
   simp only [Act.put,List.setIfInBounds_toArray];refine ie 1 ?v1 rfl (by kernel_rfl) (fun _ _ _ h=>h) (by kernel_rfl) ?y1 trivial ?_
   case y1=>(intro u l;go_simp;try rfl)
   simp only [Act.put];refine ie 2 ?v2 rfl (by kernel_rfl) (fun _ _ _ h=>h) (by kernel_rfl) ?y2 trivial ?_
   case y2=>(intro u l;go_simp;try rfl)
   simp only [Act.put];refine ie 3 ?v3 rfl (by kernel_rfl) (fun _ _ _ h=>h) (by kernel_rfl) ?y3 trivial ?_
   case y3=>(intro u l;go_simp;try rfl)
   simp only [Act.put];refine ie 6 ?v6 rfl (by kernel_rfl) (fun _ _ _ h=>h) (by kernel_rfl) ?y6 trivial ?_
   case y6=>(intro u l;go_simp;try rfl)
   simp only [Act.put];refine ie 7 ?v7 rfl (by kernel_rfl) (fun _ _ _ h=>h) (by kernel_rfl) ?y7 trivial ?_
   case y7=>(intro u l;go_simp;try rfl)
   simp only [Act.put];have y:IntKind.u8.wrap (IntKind.u64.wrap (128+(n:Int).tmod 128))=((n % 128+128:Nat):Int):=by
    have D:(n:Int).tmod 128=((n % 128:Nat):Int):=by rw [Int.tmod_eq_emod_of_nonneg (by omega)];omega
    rw [D];simp only [IntKind.wrap,IntKind.signed,IntKind.bits];simp;omega
   have z:IntKind.u64.wrap ((n:Int) / 128)=((n / 128:Nat):Int):=by
    simp only [IntKind.wrap,IntKind.signed,IntKind.bits];simp;omega
   simp only [y,z];have hx:n % 128+128<256:=by omega
   have B:Hid ((numB (n / 128)).length<=10):=kn (by omega);clear y z;generalize hxx:n % 128+128=x at*;have hcat:=xG [x] (numB (n / 128)) (by have:=B.out;simp;omega);refine nS (i:=4) (j:=8) rfl rfl (by kernel_rfl) (by kernel_rfl) (by kernel_rfl) (by kernel_rfl) ?_ ?_
   ·intro C r;have p:=ij r;clear r;go_simp;refine p.out _ _ trivial ?_;clear p;try simp only [Act.put,List.setIfInBounds_toArray]
    have m:(convert 147 9 (.slice (some ⟨w.heap.size,0,none⟩) 1 1)).run Tryz.prog (w.alloc (.cells #[.int .u8 (x:Int)] 5)).drew= .ok (.string (bs [x])) (w.alloc (.cells #[.int .u8 (x:Int)] 5)).drew:=nY (by simp only [World.cell?];exact ui w x);refine nS (i:=5) (j:=8) rfl rfl (by kernel_rfl) (by kernel_rfl) (by kernel_rfl) (by kernel_rfl) ?_ ?_
    ·intro t f;have c:=ij f;clear f;go_simp;refine c.out _ _ trivial ?_;clear c m;try simp only [Act.put,List.setIfInBounds_toArray]
     refine iu (i:=8) rfl (by kernel_rfl) (by kernel_rfl) (by kernel_rfl) ?_;intro v k;have d:=ij k;clear k;go_simp;refine(s.out _).mono ?_;rintro e a ⟨rfl,b⟩;have o:Hid (w.grownBy a none):=il (iq (ir _ _)) (jo b);refine d.out _ _ trivial ?_;clear d b;try simp only [Act.put,List.setIfInBounds_toArray]
     refine ie 9 ?v9a rfl (by kernel_rfl) (fun _ _ _ h=>h) (by kernel_rfl) ?y9a trivial ?_
     case y9a=>(intro u l;go_simp;try rfl)
     simp only [Act.put,List.setIfInBounds_toArray];refine iF rfl (by kernel_rfl) (by kernel_rfl) (by kernel_rfl) ?_;go_simp;go_wp2_with fail
     go_ret;exact⟨by rw [q.out];rfl,o.out⟩
    ·intro v k;have d:=ij k;clear k;go_simp;refine(s.out _).mono ?_;rintro e a ⟨rfl,b⟩;have o:Hid (w.grownBy a none):=il (iq (ir _ _)) (jo b);have m:(convert 147 9 (.slice (some ⟨w.heap.size,0,none⟩) 1 1)).run Tryz.prog a= .ok (.string (bs [x])) a:=nY (ip (jo b) _ _ (by simp only [World.cell?];exact ui w x));refine d.out _ _ trivial ?_;clear d b;try simp only [Act.put,List.setIfInBounds_toArray]
     refine iu (i:=5) rfl (by kernel_rfl) (by kernel_rfl) (by kernel_rfl) ?_;intro t f;have c:=ij f;clear f;go_simp;refine c.out _ _ trivial ?_;clear c m;try simp only [Act.put,List.setIfInBounds_toArray]
     refine ie 9 ?v9b rfl (by kernel_rfl) (fun _ _ _ h=>h) (by kernel_rfl) ?y9b trivial ?_
     case y9b=>(intro u l;go_simp;try rfl)
     simp only [Act.put,List.setIfInBounds_toArray];refine iF rfl (by kernel_rfl) (by kernel_rfl) (by kernel_rfl) ?_;go_simp;go_wp2_with fail
     go_ret;exact⟨by rw [q.out];rfl,o.out⟩
   ·intro v k;have d:=ij k;clear k;go_simp;refine(s.out _).mono ?_;rintro e a ⟨rfl,b⟩;have o:Hid (w.grownBy a none):=jo b;have m:(convert 147 9 (.slice (some ⟨a.heap.size,0,none⟩) 1 1)).run Tryz.prog (a.alloc (.cells #[.int .u8 (x:Int)] 5))= .ok (.string (bs [x])) (a.alloc (.cells #[.int .u8 (x:Int)] 5)):=nY (by simp only [World.cell?];exact ui a x);refine d.out _ _ trivial ?_;clear d b;try simp only [Act.put,List.setIfInBounds_toArray]
    refine iu (i:=4) rfl (by kernel_rfl) (by kernel_rfl) (by kernel_rfl) ?_;intro C r;have p:=ij r;clear r;go_simp;refine p.out _ _ trivial ?_;clear p;try simp only [Act.put,List.setIfInBounds_toArray]
    refine iu (i:=5) rfl (by kernel_rfl) (by kernel_rfl) (by kernel_rfl) ?_;intro t f;have c:=ij f;clear f;go_simp;refine c.out _ _ trivial ?_;clear c m;try simp only [Act.put,List.setIfInBounds_toArray]
    refine ie 9 ?v9c rfl (by kernel_rfl) (fun _ _ _ h=>h) (by kernel_rfl) ?y9c trivial ?_
    case y9c=>(intro u l;go_simp;try rfl)
    simp only [Act.put,List.setIfInBounds_toArray];refine iF rfl (by kernel_rfl) (by kernel_rfl) (by kernel_rfl) ?_;go_simp;go_wp2_with fail
    go_ret;exact⟨by rw [q.out];rfl,iq o.out⟩
theorem Bm(a b:Nat)(ha:a<4294967296)(hb:b<4294967296):bits .xor .i64 (a:Int) (b:Int)=((a ^^^ b:Nat):Int):=by
 have hx:a ^^^ b<2 ^ 32:=Nat.xor_lt_two_pow (by omega) (by omega);have c:(BitVec.ofInt 64 (a:Int)).toNat=a:=by
  rw [BitVec.ofInt_natCast,BitVec.toNat_ofNat];exact Nat.mod_eq_of_lt (by omega)
 have d:(BitVec.ofInt 64 (b:Int)).toNat=b:=by
  rw [BitVec.ofInt_natCast,BitVec.toNat_ofNat];exact Nat.mod_eq_of_lt (by omega)
 show IntKind.i64.wrap ((BitVec.ofInt 64 (a:Int) ^^^ BitVec.ofInt 64 (b:Int)).toNat:Int)=_
 rw [BitVec.toNat_xor,c,d];simp only [IntKind.wrap,IntKind.signed,IntKind.bits];simp;omega
theorem wS(n:Int)(w:World)(h0: -9223372036854775808<=n)(h1:n<=9223372036854775807):Calls Tryz.prog 67 #[.int .i64 n] w fun e w'=>e= .returned (.int .u64 (zig n:Nat))/\w'=w:=by
 go_enter Tryz.func67,Tryz.ntmps67
 by_cases h:n<0
 ·have a:Hid (((zig n:Nat):Int)= -2*n - 1):=by unfold Hid zig;rw [if_pos h];omega
  go_wp2_with fail
  go_ret;exact⟨by rw [a.out,show -2*n - 1=2* -(n+1)+1 by omega];rfl,rfl⟩
 ·have a:Hid (((zig n:Nat):Int)=2*n):=by unfold Hid zig;rw [if_neg h];omega
  go_wp2_with fail
  go_ret;exact⟨by rw [a.out];rfl,rfl⟩
theorem yQ(s:ByteArray)(w:World)(hs:s.size<=9223372036854775806):Calls Tryz.prog 69 #[.string s] w fun e w'=>e= .returned (.int .i64 (crcN (byt s):Nat))/\w'=w:=by
 have q0:(s.size:Int)<=9223372036854775806:=by omega
 have o:Hid ((byt s).length=s.size):=iL s;have HB256:Hid (∀ b∈byt s,b<256):=fun b hb=>qJ s b hb
 have n:Hid (crcF 4294967295 ((byt s).take 0)=4294967295):=rfl;go_enter Tryz.func69,Tryz.ntmps69
 go_wp2_with fail
 go_loopw [3,4] (fun vv iv w'=>∃ (i v:Nat),i<=s.size/\v<4294967296/\iv= .int .i64 i/\vv= .int .i64 v/\w'=w/\Hid (crcF 4294967295 ((byt s).take i)=v)) (fun _ iv _=>s.size - (intOf iv).toNat)
 case atStart=>exact⟨0,4294967295,Nat.zero_le _,by omega,rfl,rfl,rfl,n⟩
 case round=>
  clear n;obtain⟨i,v,hi,j,rfl,rfl,l,p⟩:=hrel;subst l;by_cases B:i<s.size
  ·have t0:(0:Int)<=(i:Int):=by omega
   have E:(i:Int)<s.size:=by omega
   obtain⟨c,hc⟩:∃ c,c=s[i].toNat:=⟨_,rfl⟩;have h:c<256:=by rw [hc];exact UInt8.toNat_lt _
   have u:Hid (crcF 4294967295 ((byt s).take (i+1))=(bitsR 8 (v,c)).1):=by
    unfold Hid;have y:i<(byt s).length:=by rw [o.out];exact B
    rw [List.take_succ_eq_append_getElem y,nH,p.out,rS v c h];have:(byt s)[i]=c:=by rw [hc];simp [byt];rfl
    simp [crcF,this]
   have C:s[i].toNat=c:=hc.symm;clear hc;go_upto_region 6 with fail
   clear C;go_wp2_with fail
   go_loopw [3,5,6] (fun vv cv kv w'=>∃ k:Nat,k<=8/\kv= .int .i64 k/\vv= .int .i64 ((bitsR k (v,c)).1:Nat)/\cv= .int .i64 ((bitsR k (v,c)).2:Nat)/\w'=wr) (fun _ _ kv _=>8 - (intOf kv).toNat)
   case atStart=>exact⟨0,Nat.zero_le _,rfl,rfl,rfl,rfl⟩
   case round=>
    obtain⟨k,hk,rfl,rfl,rfl,l⟩:=hrel;subst l;by_cases hk8:k<8
    ·have F:(k:Int)<8:=by omega
     obtain⟨m,D⟩:=rT k v c j h;have d:Hid (bitsR (k+1) (v,c)=bitR (bitsR k (v,c))):=rfl;generalize bitsR k (v,c)=x at*;obtain⟨x1,x2⟩:=x;simp only at m D ⊢;by_cases f:(x1+x2) % 2=1
     ·have A:Int.tmod ((x1:Int)+(x2:Int)) 2=1:=by rw [Int.tmod_eq_emod_of_nonneg (by omega)];omega
      have hxr:bits .xor .i64 ((x1:Int) / 2) 3988292384=(((x1 / 2) ^^^ 3988292384:Nat):Int):=by
       have:=Bm (x1 / 2) 3988292384 (by omega) (by omega);rw [<-this];congr 1<;>omega
      have a:Hid (bitR (x1,x2)=((x1 / 2) ^^^ 3988292384,x2 / 2)):=by unfold Hid bitR;simp only;rw [if_pos f]
      clear f;go_wp2_with fail
      go_roundw
      case rel=>exact⟨k+1,by omega,by go_num,by rw [d.out,a.out],by rw [d.out,a.out];simp,by first | rfl | trivial⟩
      case measure=>simp [intOf];omega
     ·have A:Int.tmod ((x1:Int)+(x2:Int)) 2=0:=by rw [Int.tmod_eq_emod_of_nonneg (by omega)];omega
      have a:Hid (bitR (x1,x2)=(x1 / 2,x2 / 2)):=by unfold Hid bitR;simp only;rw [if_neg f]
      clear f;go_wp2_with fail
      go_roundw
      case rel=>exact⟨k+1,by omega,by go_num,by rw [d.out,a.out];simp,by rw [d.out,a.out];simp,by first | rfl | trivial⟩
      case measure=>simp [intOf];omega
    ·have F:(8:Int)<=(k:Int):=by omega
     have z:k=8:=by omega
     subst z;have m:=(rT 8 v c j h).1;go_wp2_with fail
     go_roundw
     case rel=>exact⟨i+1,(bitsR 8 (v,c)).1,by omega,m,by go_num,by first | rfl | trivial,by first | rfl | trivial,u⟩
     case measure=>simp [intOf];omega
  ·have E:(s.size:Int)<=(i:Int):=by omega
   have r:i=s.size:=by omega
   have t:Hid (((crcN (byt s):Nat):Int)=4294967295 - (v:Int)):=by
    have q:=p.out;rw [r,List.take_of_length_le (by rw [o.out];omega)]at q;unfold Hid crcN;rw [q,xI v j];omega
   clear r;go_wp2_with fail
   go_ret;exact⟨by rw [t.out];rfl,rfl⟩
def RdG(w:World)(b:Nat)(s:ByteArray)(l:List Nat)(bad:Bool):Prop:=
 ∃ k:Nat,w.heap[b]?=some (.cells #[.string s,.int .i64 (k:Int),.bool bad] 180 (0,0))/\l=(byt s).drop k/\k<=s.size+3
theorem RdG.step{w w':World}{b:Nat}{s:ByteArray}{l:List Nat}{bad:Bool}(h:RdG w b s l bad)(e:w'.heap[b]?=w.heap[b]?):RdG w' b s l bad:=by
 obtain⟨k,a,c,d⟩:=h;exact⟨k,by rw [e];exact a,c,d⟩
theorem RdG.bad{w:World}{b:Nat}{s:ByteArray}{l:List Nat}{bad:Bool}(h:RdG w b s l bad):w.cell? ⟨b,2,none⟩=some (.bool bad):=by
 obtain⟨k,a,h2,h3⟩:=h;simp [World.cell?,a]
theorem pl{w:World}{b:Nat}{x0 x1 x2:Value}{t:TypeId}(h:w.heap[b]?=some (.cells #[x0,x1,x2] t (0,0))):w.cell? ⟨b,0,none⟩=some x0/\w.cell? ⟨b,1,none⟩=some x1/\w.cell? ⟨b,2,none⟩=some x2/\w.frozen? ⟨b,1,none⟩=false/\w.frozen? ⟨b,2,none⟩=false:=by
 simp [World.cell?,World.frozen?,h]
theorem ja(w:World)(b o:Nat)(v:Value):w.grownBy (w.setCell ⟨b,o,none⟩ v) (some b):=
 ⟨rfl,rfl,rfl,by simp,fun k _ hk=>Below.heap_setCell _ _ _ _ (fun e=>hk (by simp only at e;rw [e]))⟩
theorem Bq(w:World)(b:Nat)(s:ByteArray)(l:List Nat)(bad:Bool)(h:RdG w b s l bad)(hs:s.size<=9223372036854775000):
  Calls Tryz.prog 99 #[pt b] w fun e w'=>e= .returned (.int .u64 ((bigG 10 1 0 l).1:Nat))/\RdG w' b s (bigG 10 1 0 l).2.1 (bad || (bigG 10 1 0 l).2.2)/\w.grownBy w' (some b):=by
 have A:=ij h;have F:pt b= .pointer (some ⟨b,0,none⟩):=rfl;rw [F];clear h F;go_enter Tryz.func99,Tryz.ntmps99
 go_wp2_with fail
 go_loopw [3,4,5] (fun vv uv kv w'=>∃ (k v u:Nat) (o:List Nat),k<=10/\v<18446744073709551616/\u<18446744073709551616/\kv= .int .i64 k/\vv= .int .u64 v/\uv= .int .u64 u/\Hid (RdG w' b s o bad/\bigG (10 - k) u v o=bigG 10 1 0 l/\w.grownBy w' (some b))) (fun _ _ kv _=>10 - (intOf kv).toNat)
 case atStart=>exact⟨0,0,1,l,by omega,by omega,by omega,rfl,rfl,rfl,⟨A.out,rfl,ir _ _⟩⟩
 case round=>
  clear A;obtain⟨k,v,u,o,hk,hv,hu,rfl,rfl,rfl,m⟩:=hrel;obtain⟨f,G⟩:∃ f,f=wr:=⟨_,rfl⟩;rw [<-G]at m ⊢;clear G;obtain⟨a,z,r,D⟩:=m.out.1;obtain⟨c0,c1,c2,f1,f2⟩:=pl z;have HB:=ij z;clear z;have qa:(a:Int)<=9223372036854775003:=by omega
  by_cases hk10:k<10
  ·have M:(k:Int)<10:=by omega
   obtain⟨j,E⟩:∃ j,10 - k=j+1:=⟨9 - k,by omega⟩;by_cases J:a<s.size
   ·have N:(a:Int)<s.size:=by omega
    have t2:(0:Int)<=(a:Int):=by omega
    have p:Hid (o=s[a].toNat::(byt s).drop (a+1)):=by
     unfold Hid;rw [r];have I:a<(byt s).length:=by rw [iL];exact J
     rw [List.drop_eq_getElem_cons I];congr 1
     simp [byt];rfl
    obtain⟨c,hc⟩:∃ c,s[a].toNat=c:=⟨_,rfl⟩;have hc256:c<256:=by rw [<-hc];exact UInt8.toNat_lt _
    rw [hc]at p;have hm:Int.tmod (c:Int) 128=((c % 128:Nat):Int):=by rw [Int.tmod_eq_emod_of_nonneg (by omega)];omega
    have B:Hid (∀ w2,Like w2 f->RdG (w2.setCell ⟨b,1,none⟩ (.int .i64 ((a:Int)+1))) b s ((byt s).drop (a+1)) bad/\w.grownBy (w2.setCell ⟨b,1,none⟩ (.int .i64 ((a:Int)+1))) (some b)):=fun w2 hl2=>by
     refine⟨⟨a+1,?_,rfl,by omega⟩,il (iR m.out.2.2 hl2) (ja _ _ _ _)⟩;rw [heap_setCell_same w2 b 1 _ _ _ (by rw [hl2.1];exact HB.out)];rfl
    have q:IntKind.u64.wrap ((v:Int)+IntKind.u64.wrap ((u:Int)*((c:Int) % 128)))=(((v+u*(c % 128)) % 18446744073709551616:Nat):Int):=by
     have i:(u:Int)*((c:Int) % 128)=((u*(c % 128):Nat):Int):=by push_cast;rfl
     rw [i,IntKind.wrap_u64,IntKind.wrap_u64];omega
    have y:IntKind.u64.wrap ((u:Int)*128)=((u*128 % 18446744073709551616:Nat):Int):=by
     rw [IntKind.wrap_u64];omega
    have d:=ij m.out.2.1;rw [E,p.out,bigG]at d;have L:(v+u*(c % 128)) % 18446744073709551616<18446744073709551616:=Nat.mod_lt _ (by omega);have K:u*128 % 18446744073709551616<18446744073709551616:=Nat.mod_lt _ (by omega);generalize (v+u*(c % 128)) % 18446744073709551616=V at*;generalize u*128 % 18446744073709551616=U at*;by_cases C:c<128
    ·rw [if_pos C]at d;have O:(c:Int)<128:=by omega
     have t:=ij q;clear q y;go_upto_region 6 with fail
     go_quiet (fail)
     go_wp2_with fail
     go_quiet (fail)
     go_wp2_with fail
     go_ret;obtain⟨i,n⟩:=B.out _ (jB f _);refine⟨?_,?_,n⟩
     ·rw [<-d.out];simp only;rw [<-t.out];rfl
     ·rw [<-d.out];simp only [Bool.or_false];exact i
    ·rw [if_neg C]at d;have O:(128:Int)<=(c:Int):=by omega
     have t:=ij q;have H:=ij y;clear q y;go_upto_region 6 with fail
     go_quiet (fail)
     go_wp2_with fail
     go_quiet (fail)
     go_wp2_with fail
     go_roundw
     case rel=>
      obtain⟨i,n⟩:=B.out _ (jB f _);exact⟨k+1,V,U,(byt s).drop (a+1),by omega,L,K,by go_num,by rw [<-t.out],by rw [<-H.out],⟨i,by rw [show 10 - (k+1)=j by omega];exact d.out,n⟩⟩
     case measure=>simp [intOf];omega
   ·have N:(s.size:Int)<=(a:Int):=by omega
    have p:Hid (o=[]):=by unfold Hid;rw [r];exact List.drop_eq_nil_of_le (by rw [iL];omega)
    have x:Hid (∀ w2,Like w2 f->RdG (w2.setCell ⟨b,2,none⟩ (.bool true)) b s [] true/\w.grownBy (w2.setCell ⟨b,2,none⟩ (.bool true)) (some b)):=fun w2 hl2=>by
     refine⟨⟨a,?_,by rw [<-r,p.out],D⟩,il (iR m.out.2.2 hl2) (ja _ _ _ _)⟩;rw [heap_setCell_same w2 b 2 _ _ _ (by rw [hl2.1];exact HB.out)];rfl
    have d:=ij m.out.2.1;rw [E,p.out,bigG]at d;go_upto_region 6 with fail
    go_quiet (fail)
    go_wp2_with fail
    go_ret;obtain⟨i,n⟩:=x.out _ (jB f _);refine⟨?_,?_,n⟩
    ·rw [<-d.out];rfl
    ·rw [<-d.out];simp only [Bool.or_true];exact i
  ·have M:(10:Int)<=(k:Int):=by omega
   have x:Hid (RdG (f.setCell ⟨b,2,none⟩ (.bool true)) b s o true/\w.grownBy (f.setCell ⟨b,2,none⟩ (.bool true)) (some b)):=by
    refine⟨⟨a,?_,r,D⟩,il m.out.2.2 (ja _ _ _ _)⟩;rw [heap_setCell_same f b 2 _ _ _ HB.out];rfl
   have d:=ij m.out.2.1;rw [show 10 - k=0 by omega,bigG]at d;go_wp2_with fail
   go_ret;obtain⟨i,n⟩:=x.out;refine⟨?_,?_,n⟩
   ·rw [<-d.out];rfl
   ·rw [<-d.out];simp only [Bool.or_true];exact i
theorem kH(w:World)(b:Nat)(s:ByteArray)(l:List Nat)(bad:Bool)(c:Nat)(hmost:c<=1000)(h:RdG w b s l bad)(B:s.size<=9223372036854775000):
  Calls Tryz.prog 98 #[pt b,.int .i64 (c:Int)] w fun e w'=>e= .returned (.int .i64 ((numG c l).1:Nat))/\RdG w' b s (numG c l).2.1 (bad || (numG c l).2.2)/\w.grownBy w' (some b):=by
 have f:=ij (Bq w b s l bad h B);have q:pt b= .pointer (some ⟨b,0,none⟩):=rfl;rw [q]at f ⊢;clear h q;have C:=nW 10 1 0 l;go_enter Tryz.func98,Tryz.ntmps98
 go_wp2_with fail
 refine f.out.mono ?_;clear f;rintro e j ⟨rfl,t,n⟩;have m:=ij t;have k:=ij n;obtain⟨a,i,o,A⟩:=t;obtain⟨c0,c1,x,f1,f2⟩:=pl i;have HB:=ij i;clear i n;have qm:(c:Int)<=1000:=by omega
 have d:Hid (numG c l=if c<(bigG 10 1 0 l).1 then (0,(bigG 10 1 0 l).2.1,true) else bigG 10 1 0 l):=rfl;generalize bigG 10 1 0 l=X at*;obtain⟨v,r,bd⟩:=X;simp only at C o HB m d x ⊢;by_cases p:c<v
 ·have D:(c:Int)<(v:Int):=by omega
  rw [if_pos p]at d;have u:Hid (RdG (j.setCell ⟨b,2,none⟩ (.bool true)) b s r true/\w.grownBy (j.setCell ⟨b,2,none⟩ (.bool true)) (some b)):=by
   refine⟨⟨a,?_,o,A⟩,il k.out (ja _ _ _ _)⟩;rw [heap_setCell_same j b 2 _ _ _ HB.out];rfl
  go_wp2_with fail
  go_ret;rw [d.out];obtain⟨y,z⟩:=u.out;exact⟨rfl,by simp only [Bool.or_true];exact y,z⟩
 ·have D:(v:Int)<=(c:Int):=by omega
  rw [if_neg p]at d;go_wp2_with fail
  go_ret;rw [d.out];exact⟨rfl,m.out,k.out⟩
end
end Go.Proofs.YtklenjmfalljgabGreatDoor
