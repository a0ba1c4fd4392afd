/-
  A command held against the zero one.
-/
import Derived.Test.YtnchndcanhmbeaaGreatDoorGCmd
namespace Go.Proofs.YtnchndcanhmbeaaGreatDoor
open Go.RowKit

theorem eqAd9 (a : Bool) (b c : Int) (w : World) : (Op.equalIn 9999 31 (.agg #[.bool a, .int .i64 b, .int .i64 c]) (.agg #[.bool false, .int .i64 0, .int .i64 0])).run Tryz.prog w = .ok (a == false && (b == 0 && c == 0)) w := by
  have u3 := Tryz.underlying3
  have a3 := Tryz.isAgg3
  have z3 := Tryz.sizeOf3
  have u4 := Tryz.underlying4
  have a4 := Tryz.isAgg4
  have z4 := Tryz.sizeOf4
  have hS : Tryz.prog.underlying 31 = some (.struct (Tryz.prog.fieldsOf 31)) := by kernel_rfl
  have hp : Tryz.prog.stoodInHeld 31 = false := by kernel_rfl
  rw [show (9999 : Nat) = 9998 + 1 from rfl, run_equalIn_agg w 9998 31 _ _ hS hp]
  simp only [Program.fieldsOf, Tryz.underlying31]
  go_simp
  by_cases h1 : a = false <;> by_cases h2 : b = 0 <;> by_cases h3 : c = 0 <;> simp [h1, h2, h3]
theorem eqAd8 (a : Bool) (b c : Int) (w : World) : (Op.equalIn 9998 31 (.agg #[.bool a, .int .i64 b, .int .i64 c]) (.agg #[.bool false, .int .i64 0, .int .i64 0])).run Tryz.prog w = .ok (a == false && (b == 0 && c == 0)) w := by
  have u3 := Tryz.underlying3
  have a3 := Tryz.isAgg3
  have z3 := Tryz.sizeOf3
  have u4 := Tryz.underlying4
  have a4 := Tryz.isAgg4
  have z4 := Tryz.sizeOf4
  have hS : Tryz.prog.underlying 31 = some (.struct (Tryz.prog.fieldsOf 31)) := by kernel_rfl
  have hp : Tryz.prog.stoodInHeld 31 = false := by kernel_rfl
  rw [show (9998 : Nat) = 9997 + 1 from rfl, run_equalIn_agg w 9997 31 _ _ hS hp]
  simp only [Program.fieldsOf, Tryz.underlying31]
  go_simp
  by_cases h1 : a = false <;> by_cases h2 : b = 0 <;> by_cases h3 : c = 0 <;> simp [h1, h2, h3]
set_option maxHeartbeats 400000 in
theorem eqPf9 (a : Bool) (b c d : Int) (w : World) : (Op.equalIn 9999 33 (.agg #[.bool a, .int .i64 b, .int .i64 c, .int .i64 d]) (.agg #[.bool false, .int .i64 0, .int .i64 0, .int .i64 0])).run Tryz.prog w = .ok ((a == false && (b == 0 && c == 0)) && d == 0) w := by
  have u3 := Tryz.underlying3
  have a3 := Tryz.isAgg3
  have z3 := Tryz.sizeOf3
  have u4 := Tryz.underlying31
  have a4 := Tryz.isAgg31
  have z4 := Tryz.sizeOf31
  have hS : Tryz.prog.underlying 33 = some (.struct (Tryz.prog.fieldsOf 33)) := by kernel_rfl
  have hp : Tryz.prog.stoodInHeld 33 = false := by kernel_rfl
  have h9 := eqAd8 a b c
  generalize (a == false && (b == 0 && c == 0)) = e at *
  rw [show (9999 : Nat) = 9998 + 1 from rfl, run_equalIn_agg w 9998 33 _ _ hS hp]
  simp only [Program.fieldsOf, Tryz.underlying33]
  cases e <;> by_cases h4 : d = 0
  all_goals
    go_simp
    try simp [h4]
/-- All fields are zero. -/
def zCm (k s q n : Int) (aS : Bool) (aH aL ab b : Int) (hS : Bool) (hH hL : Int) (o : ByteArray) (t sp : Int) : Bool :=
  k == 0 && (s == 0 && (q == 0 && (n == 0 && (((aS == false && (aH == 0 && aL == 0)) && ab == 0) && (b == 0 && ((hS == false && (hH == 0 && hL == 0)) && (o.toList.isEmpty && (t == 0 && sp == 0))))))))
set_option maxRecDepth 10000 in
set_option maxHeartbeats 1000000 in
theorem eqCm (k s q n : Int) (aS : Bool) (aH aL ab b : Int) (hS : Bool) (hH hL : Int) (o : ByteArray) (t sp : Int) (w : World) :
    (Op.equalIn 10000 35 (.agg #[.int .i64 k, .int .i64 s, .int .i64 q, .int .i64 n, .bool aS, .int .i64 aH, .int .i64 aL, .int .i64 ab, .int .i64 b, .bool hS, .int .i64 hH, .int .i64 hL, .string o, .int .i64 t, .int .i64 sp]) (.agg #[.int .i64 0, .int .i64 0, .int .i64 0, .int .i64 0, .bool false, .int .i64 0, .int .i64 0, .int .i64 0, .int .i64 0, .bool false, .int .i64 0, .int .i64 0, .string ⟨#[]⟩, .int .i64 0, .int .i64 0])).run Tryz.prog w = .ok (zCm k s q n aS aH aL ab b hS hH hL o t sp) w := by
  have u3 := Tryz.underlying3
  have a3 := Tryz.isAgg3
  have z3 := Tryz.sizeOf3
  have u4 := Tryz.underlying31
  have a4 := Tryz.isAgg31
  have z4 := Tryz.sizeOf31
  have u5 := Tryz.underlying33
  have a5 := Tryz.isAgg33
  have z5 := Tryz.sizeOf33
  have u6 := Tryz.underlying9
  have a6 := Tryz.isAgg9
  have z6 := Tryz.sizeOf9
  have hSt : Tryz.prog.underlying 35 = some (.struct (Tryz.prog.fieldsOf 35)) := by kernel_rfl
  have hp : Tryz.prog.stoodInHeld 35 = false := by kernel_rfl
  have h1 := eqAd9 hS hH hL
  have h2 := eqPf9 aS aH aL ab
  unfold zCm
  generalize (aS == false && (aH == 0 && aL == 0) && ab == 0) = e2 at *
  generalize (hS == false && (hH == 0 && hL == 0)) = e1 at *
  rw [show (10000 : Nat) = 9999 + 1 from rfl, run_equalIn_agg w 9999 35 _ _ hSt hp]
  simp only [Program.fieldsOf, Tryz.underlying35]
  cases e1 <;> cases e2
  · go_simp
  · go_simp
  · go_simp
  · go_simp
    by_cases c1 : k = 0
    · by_cases c2 : s = 0
      · by_cases c3 : q = 0
        · by_cases c4 : n = 0
          · by_cases c5 : b = 0
            · by_cases c6 : o.toList = []
              · by_cases c7 : t = 0
                · by_cases c8 : sp = 0
                  · simp [c1, c2, c3, c4, c5, c6, c7, c8]
                  · simp [c1, c2, c3, c4, c5, c6, c7, c8]
                · simp [c1, c2, c3, c4, c5, c6, c7]
              · simp [c1, c2, c3, c4, c5, c6]
            · simp [c1, c2, c3, c4, c5]
          · simp [c1, c2, c3, c4]
        · simp [c1, c2, c3]
      · simp [c1, c2]
    · simp [c1]

end Go.Proofs.YtnchndcanhmbeaaGreatDoor
