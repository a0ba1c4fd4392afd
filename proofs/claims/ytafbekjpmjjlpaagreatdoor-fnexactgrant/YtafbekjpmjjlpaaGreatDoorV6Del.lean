/-
  slices.Delete of one lease.
-/
import Derived.Test.YtafbekjpmjjlpaaGreatDoorX6Del
namespace Go.Proofs.YtafbekjpmjjlpaaGreatDoor
open Go.RowKit

theorem Tryz.zeroLs (w : World) : (zeroValue 47).run Tryz.prog w = .ok (.agg #[.bool false, .int .i64 0, .int .i64 0, .string ⟨#[]⟩, .int .i64 0, .int .i64 0]) w := by
  obtain ⟨i0, hi, hz0, hz1, hz2⟩ := info_parts Tryz.tyLs.2.1
  simp [zeroValue, typeInfo, hi, hz0]
end Go.Proofs.YtafbekjpmjjlpaaGreatDoor
