/- Equality of two equal arrays of four ints. -/
import Derived.Test.YtklenjmfalljgaaDoorSch2
import Derived.ChangeKeysEq
namespace Go.Proofs.YtklenjmfalljgaaDoor
open Go.RowKit

theorem run_eq4 (a b c d : Int) (w : World) : (Op.equalIn 10000 34 (.agg #[.int .i64 a, .int .i64 b, .int .i64 c, .int .i64 d]) (.agg #[.int .i64 a, .int .i64 b, .int .i64 c, .int .i64 d])).run Tryd.prog w = .ok true w := by
  obtain ⟨i0, hi0, hz0, hz1, hz2⟩ := info_parts info_int
  have hc : Tryd.prog.cellsOf 3 = 1 := by simp [Program.cellsOf, hi0, hz1]
  have hk : Tryd.prog.plainKey 3 = true := by simp [Program.plainKey, Tryd.underlying3]
  rw [show (10000 : Nat) = 9999 + 1 from rfl, run_equalIn_array w 9999 _ _ (n := 4) (e := 3) (by first | exact Tryd.underlying34 | kernel_rfl) hi0, hc]
  have he : ∀ (d : Nat) (v : Int), (Op.equalIn (d + 1) 3 (.int .i64 v) (.int .i64 v)).run Tryd.prog w = .ok true w := fun d v => by
    rw [run_equalIn_int w d _ _ .i64 v v Tryd.underlying3]; simp
  have hq := he 9998
  simp only [Nat.reduceAdd] at hq
  have p0 := run_part_plain w hk (xs := #[.int .i64 a, .int .i64 b, .int .i64 c, .int .i64 d]) (off := 0) rfl
  have p1 := run_part_plain w hk (xs := #[.int .i64 a, .int .i64 b, .int .i64 c, .int .i64 d]) (off := 1) rfl
  have p2 := run_part_plain w hk (xs := #[.int .i64 a, .int .i64 b, .int .i64 c, .int .i64 d]) (off := 2) rfl
  have p3 := run_part_plain w hk (xs := #[.int .i64 a, .int .i64 b, .int .i64 c, .int .i64 d]) (off := 3) rfl
  simp [List.range, List.range.loop, Op.eqItems, Sem.run_bind, p0, p1, p2, p3, hq, Result.andThen_ok]

end Go.Proofs.YtklenjmfalljgaaDoor
