/-
  The program's Chief: its tests.
-/
import Derived.Test.YtmfbmnpfgbenmaaECs
import Derived.ProofKit
namespace Go.Proofs.Ytmfbmnpfgbenmaa
open Go.RowKit

theorem cons_of {l : List Value} {n : Nat} (h : l.length = n + 1) : ∃ x t, l = x :: t ∧ t.length = n := by
  cases l with
  | nil => cases h
  | cons x t => exact ⟨x, t, rfl, by simpa using h⟩
/-- The slots of the program's Chief. -/
structure SlI (a : Act) (p0 b i q5 n : Nat) (sl : Value) : Prop where
  sz : a.tmps.size = 48
  df : a.defers = []
  e1 : a.eval (.tmp 1) = .pointer (some ⟨p0, 0, none⟩)
  e3 : a.eval (.tmp 3) = .int .i64 b
  e4 : a.eval (.tmp 4) = .int .i64 i
  e5 : a.eval (.tmp 5) = .pointer (some ⟨q5, 0, none⟩)
  e8 : a.eval (.tmp 8) = sl
  e9 : a.eval (.tmp 9) = .int .i64 n
  e10 : a.eval (.tmp 10) = .int .i64 i

set_option maxRecDepth 10000 in
set_option maxHeartbeats 4000000 in
theorem regI5_a {t0 t1 t2 t3 t4 t5 t6 t7 t8 : TypeId} {s0 s1 s2 s3 s4 s5 s6 s7 s8 : String} {id : Nat} {a : Act} {w : World} {Q : Exit → Act → World → Prop} {p0 i q5 n : Nat} {ro te : Int} {sl : Value} {b : Nat} (h : SlI a p0 b i q5 n sl) (hc : CeC q5 p0 false ro te sl w)
    (k : ∀ a', SlI a' p0 b i q5 n sl → a'.eval (.tmp 6) = .bool false → Q .normal a' w) :
    Code.wp Try.prog (Code.region id #[⟨some 15, .fieldAddr 76 (.tmp 5) 4, t0, s0, #[], none⟩, ⟨some 16, .load 4 (.tmp 15), t1, s1, #[⟨0, .data⟩], none⟩, ⟨some 17, .move (.tmp 16), t2, s2, #[⟨1, .data⟩], none⟩, ⟨some 18, .fieldAddr 76 (.tmp 5) 0, t3, s3, #[⟨2, .guard⟩], (some (2, true))⟩, ⟨some 19, .fieldAddr 57 (.tmp 18) 2, t4, s4, #[⟨3, .data⟩, ⟨2, .guard⟩], (some (2, true))⟩, ⟨some 20, .load 3 (.tmp 19), t5, s5, #[⟨4, .data⟩, ⟨2, .guard⟩], (some (2, true))⟩, ⟨some 21, .binOp .eql 3 (.tmp 20) (.const (.int .i64 2)) 3, t6, s6, #[⟨5, .data⟩, ⟨2, .guard⟩], (some (2, true))⟩, ⟨some 22, .pick (.tmp 17) (.tmp 21) (.const (.bool false)), t7, s7, #[⟨2, .data⟩, ⟨6, .data⟩], none⟩, ⟨some 6, .assign (.tmp 22), t8, s8, #[⟨7, .data⟩, ⟨2, .chain⟩, ⟨0, .phase⟩, ⟨1, .phase⟩, ⟨2, .phase⟩, ⟨3, .phase⟩, ⟨4, .phase⟩, ⟨5, .phase⟩, ⟨6, .phase⟩, ⟨7, .phase⟩], none⟩] false) Q a w := by
  obtain ⟨⟨l⟩, ds⟩ := a
  have hz0 : l.length = 48 := h.sz
  obtain ⟨x0, l, rfl, hz1⟩ := cons_of hz0
  clear hz0
  obtain ⟨x1, l, rfl, hz2⟩ := cons_of hz1
  clear hz1
  obtain ⟨x2, l, rfl, hz3⟩ := cons_of hz2
  clear hz2
  obtain ⟨x3, l, rfl, hz4⟩ := cons_of hz3
  clear hz3
  obtain ⟨x4, l, rfl, hz5⟩ := cons_of hz4
  clear hz4
  obtain ⟨x5, l, rfl, hz6⟩ := cons_of hz5
  clear hz5
  obtain ⟨x6, l, rfl, hz7⟩ := cons_of hz6
  clear hz6
  obtain ⟨x7, l, rfl, hz8⟩ := cons_of hz7
  clear hz7
  obtain ⟨x8, l, rfl, hz9⟩ := cons_of hz8
  clear hz8
  obtain ⟨x9, l, rfl, hz10⟩ := cons_of hz9
  clear hz9
  obtain ⟨x10, l, rfl, hz11⟩ := cons_of hz10
  clear hz10
  obtain ⟨x11, l, rfl, hz12⟩ := cons_of hz11
  clear hz11
  obtain ⟨x12, l, rfl, hz13⟩ := cons_of hz12
  clear hz12
  obtain ⟨x13, l, rfl, hz14⟩ := cons_of hz13
  clear hz13
  obtain ⟨x14, l, rfl, hz15⟩ := cons_of hz14
  clear hz14
  obtain ⟨x15, l, rfl, hz16⟩ := cons_of hz15
  clear hz15
  obtain ⟨x16, l, rfl, hz17⟩ := cons_of hz16
  clear hz16
  obtain ⟨x17, l, rfl, hz18⟩ := cons_of hz17
  clear hz17
  obtain ⟨x18, l, rfl, hz19⟩ := cons_of hz18
  clear hz18
  obtain ⟨x19, l, rfl, hz20⟩ := cons_of hz19
  clear hz19
  obtain ⟨x20, l, rfl, hz21⟩ := cons_of hz20
  clear hz20
  obtain ⟨x21, l, rfl, hz22⟩ := cons_of hz21
  clear hz21
  obtain ⟨x22, l, rfl, hz23⟩ := cons_of hz22
  clear hz22
  obtain ⟨x23, l, rfl, hz24⟩ := cons_of hz23
  clear hz23
  obtain ⟨x24, l, rfl, hz25⟩ := cons_of hz24
  clear hz24
  obtain ⟨x25, l, rfl, hz26⟩ := cons_of hz25
  clear hz25
  obtain ⟨x26, l, rfl, hz27⟩ := cons_of hz26
  clear hz26
  obtain ⟨x27, l, rfl, hz28⟩ := cons_of hz27
  clear hz27
  obtain ⟨x28, l, rfl, hz29⟩ := cons_of hz28
  clear hz28
  obtain ⟨x29, l, rfl, hz30⟩ := cons_of hz29
  clear hz29
  obtain ⟨x30, l, rfl, hz31⟩ := cons_of hz30
  clear hz30
  obtain ⟨x31, l, rfl, hz32⟩ := cons_of hz31
  clear hz31
  obtain ⟨x32, l, rfl, hz33⟩ := cons_of hz32
  clear hz32
  obtain ⟨x33, l, rfl, hz34⟩ := cons_of hz33
  clear hz33
  obtain ⟨x34, l, rfl, hz35⟩ := cons_of hz34
  clear hz34
  obtain ⟨x35, l, rfl, hz36⟩ := cons_of hz35
  clear hz35
  obtain ⟨x36, l, rfl, hz37⟩ := cons_of hz36
  clear hz36
  obtain ⟨x37, l, rfl, hz38⟩ := cons_of hz37
  clear hz37
  obtain ⟨x38, l, rfl, hz39⟩ := cons_of hz38
  clear hz38
  obtain ⟨x39, l, rfl, hz40⟩ := cons_of hz39
  clear hz39
  obtain ⟨x40, l, rfl, hz41⟩ := cons_of hz40
  clear hz40
  obtain ⟨x41, l, rfl, hz42⟩ := cons_of hz41
  clear hz41
  obtain ⟨x42, l, rfl, hz43⟩ := cons_of hz42
  clear hz42
  obtain ⟨x43, l, rfl, hz44⟩ := cons_of hz43
  clear hz43
  obtain ⟨x44, l, rfl, hz45⟩ := cons_of hz44
  clear hz44
  obtain ⟨x45, l, rfl, hz46⟩ := cons_of hz45
  clear hz45
  obtain ⟨x46, l, rfl, hz47⟩ := cons_of hz46
  clear hz46
  obtain ⟨x47, l, rfl, hz48⟩ := cons_of hz47
  clear hz47
  obtain rfl := List.length_eq_zero_iff.1 hz48
  have y1 : x1 = .pointer (some ⟨p0, 0, none⟩) := h.e1
  have y3 : x3 = .int .i64 b := h.e3
  have y4 : x4 = .int .i64 i := h.e4
  have y5 : x5 = .pointer (some ⟨q5, 0, none⟩) := h.e5
  have y8 : x8 = sl := h.e8
  have y9 : x9 = .int .i64 n := h.e9
  have y10 : x10 = .int .i64 i := h.e10
  have yd : ds = [] := h.df
  subst y1 y3 y4 y5 y8 y9 y10 yd
  have c42 : w.cell? ⟨q5, 42, none⟩ = some _ := hc.c42
  have c9 : w.cell? ⟨q5, 9, none⟩ = some _ := hc.c9
  have HK := hidE k
  clear h hz48 hc k
  go_wp2_with fail
  exact HK.out _ ⟨rfl, rfl, rfl, rfl, rfl, rfl, rfl, rfl, rfl⟩ rfl

set_option maxRecDepth 10000 in
set_option maxHeartbeats 4000000 in
theorem regI5_b {t0 t1 t2 t3 t4 t5 t6 t7 t8 : TypeId} {s0 s1 s2 s3 s4 s5 s6 s7 s8 : String} {id : Nat} {a : Act} {w : World} {Q : Exit → Act → World → Prop} {p0 i q5 n : Nat} {ro te : Int} {sl : Value} {b : Nat} (hro : (ro == 2) = false) (h : SlI a p0 b i q5 n sl) (hc : CeC q5 p0 true ro te sl w)
    (k : ∀ a', SlI a' p0 b i q5 n sl → a'.eval (.tmp 6) = .bool false → Q .normal a' w) :
    Code.wp Try.prog (Code.region id #[⟨some 15, .fieldAddr 76 (.tmp 5) 4, t0, s0, #[], none⟩, ⟨some 16, .load 4 (.tmp 15), t1, s1, #[⟨0, .data⟩], none⟩, ⟨some 17, .move (.tmp 16), t2, s2, #[⟨1, .data⟩], none⟩, ⟨some 18, .fieldAddr 76 (.tmp 5) 0, t3, s3, #[⟨2, .guard⟩], (some (2, true))⟩, ⟨some 19, .fieldAddr 57 (.tmp 18) 2, t4, s4, #[⟨3, .data⟩, ⟨2, .guard⟩], (some (2, true))⟩, ⟨some 20, .load 3 (.tmp 19), t5, s5, #[⟨4, .data⟩, ⟨2, .guard⟩], (some (2, true))⟩, ⟨some 21, .binOp .eql 3 (.tmp 20) (.const (.int .i64 2)) 3, t6, s6, #[⟨5, .data⟩, ⟨2, .guard⟩], (some (2, true))⟩, ⟨some 22, .pick (.tmp 17) (.tmp 21) (.const (.bool false)), t7, s7, #[⟨2, .data⟩, ⟨6, .data⟩], none⟩, ⟨some 6, .assign (.tmp 22), t8, s8, #[⟨7, .data⟩, ⟨2, .chain⟩, ⟨0, .phase⟩, ⟨1, .phase⟩, ⟨2, .phase⟩, ⟨3, .phase⟩, ⟨4, .phase⟩, ⟨5, .phase⟩, ⟨6, .phase⟩, ⟨7, .phase⟩], none⟩] false) Q a w := by
  obtain ⟨⟨l⟩, ds⟩ := a
  have hz0 : l.length = 48 := h.sz
  obtain ⟨x0, l, rfl, hz1⟩ := cons_of hz0
  clear hz0
  obtain ⟨x1, l, rfl, hz2⟩ := cons_of hz1
  clear hz1
  obtain ⟨x2, l, rfl, hz3⟩ := cons_of hz2
  clear hz2
  obtain ⟨x3, l, rfl, hz4⟩ := cons_of hz3
  clear hz3
  obtain ⟨x4, l, rfl, hz5⟩ := cons_of hz4
  clear hz4
  obtain ⟨x5, l, rfl, hz6⟩ := cons_of hz5
  clear hz5
  obtain ⟨x6, l, rfl, hz7⟩ := cons_of hz6
  clear hz6
  obtain ⟨x7, l, rfl, hz8⟩ := cons_of hz7
  clear hz7
  obtain ⟨x8, l, rfl, hz9⟩ := cons_of hz8
  clear hz8
  obtain ⟨x9, l, rfl, hz10⟩ := cons_of hz9
  clear hz9
  obtain ⟨x10, l, rfl, hz11⟩ := cons_of hz10
  clear hz10
  obtain ⟨x11, l, rfl, hz12⟩ := cons_of hz11
  clear hz11
  obtain ⟨x12, l, rfl, hz13⟩ := cons_of hz12
  clear hz12
  obtain ⟨x13, l, rfl, hz14⟩ := cons_of hz13
  clear hz13
  obtain ⟨x14, l, rfl, hz15⟩ := cons_of hz14
  clear hz14
  obtain ⟨x15, l, rfl, hz16⟩ := cons_of hz15
  clear hz15
  obtain ⟨x16, l, rfl, hz17⟩ := cons_of hz16
  clear hz16
  obtain ⟨x17, l, rfl, hz18⟩ := cons_of hz17
  clear hz17
  obtain ⟨x18, l, rfl, hz19⟩ := cons_of hz18
  clear hz18
  obtain ⟨x19, l, rfl, hz20⟩ := cons_of hz19
  clear hz19
  obtain ⟨x20, l, rfl, hz21⟩ := cons_of hz20
  clear hz20
  obtain ⟨x21, l, rfl, hz22⟩ := cons_of hz21
  clear hz21
  obtain ⟨x22, l, rfl, hz23⟩ := cons_of hz22
  clear hz22
  obtain ⟨x23, l, rfl, hz24⟩ := cons_of hz23
  clear hz23
  obtain ⟨x24, l, rfl, hz25⟩ := cons_of hz24
  clear hz24
  obtain ⟨x25, l, rfl, hz26⟩ := cons_of hz25
  clear hz25
  obtain ⟨x26, l, rfl, hz27⟩ := cons_of hz26
  clear hz26
  obtain ⟨x27, l, rfl, hz28⟩ := cons_of hz27
  clear hz27
  obtain ⟨x28, l, rfl, hz29⟩ := cons_of hz28
  clear hz28
  obtain ⟨x29, l, rfl, hz30⟩ := cons_of hz29
  clear hz29
  obtain ⟨x30, l, rfl, hz31⟩ := cons_of hz30
  clear hz30
  obtain ⟨x31, l, rfl, hz32⟩ := cons_of hz31
  clear hz31
  obtain ⟨x32, l, rfl, hz33⟩ := cons_of hz32
  clear hz32
  obtain ⟨x33, l, rfl, hz34⟩ := cons_of hz33
  clear hz33
  obtain ⟨x34, l, rfl, hz35⟩ := cons_of hz34
  clear hz34
  obtain ⟨x35, l, rfl, hz36⟩ := cons_of hz35
  clear hz35
  obtain ⟨x36, l, rfl, hz37⟩ := cons_of hz36
  clear hz36
  obtain ⟨x37, l, rfl, hz38⟩ := cons_of hz37
  clear hz37
  obtain ⟨x38, l, rfl, hz39⟩ := cons_of hz38
  clear hz38
  obtain ⟨x39, l, rfl, hz40⟩ := cons_of hz39
  clear hz39
  obtain ⟨x40, l, rfl, hz41⟩ := cons_of hz40
  clear hz40
  obtain ⟨x41, l, rfl, hz42⟩ := cons_of hz41
  clear hz41
  obtain ⟨x42, l, rfl, hz43⟩ := cons_of hz42
  clear hz42
  obtain ⟨x43, l, rfl, hz44⟩ := cons_of hz43
  clear hz43
  obtain ⟨x44, l, rfl, hz45⟩ := cons_of hz44
  clear hz44
  obtain ⟨x45, l, rfl, hz46⟩ := cons_of hz45
  clear hz45
  obtain ⟨x46, l, rfl, hz47⟩ := cons_of hz46
  clear hz46
  obtain ⟨x47, l, rfl, hz48⟩ := cons_of hz47
  clear hz47
  obtain rfl := List.length_eq_zero_iff.1 hz48
  have y1 : x1 = .pointer (some ⟨p0, 0, none⟩) := h.e1
  have y3 : x3 = .int .i64 b := h.e3
  have y4 : x4 = .int .i64 i := h.e4
  have y5 : x5 = .pointer (some ⟨q5, 0, none⟩) := h.e5
  have y8 : x8 = sl := h.e8
  have y9 : x9 = .int .i64 n := h.e9
  have y10 : x10 = .int .i64 i := h.e10
  have yd : ds = [] := h.df
  subst y1 y3 y4 y5 y8 y9 y10 yd
  have c42 : w.cell? ⟨q5, 42, none⟩ = some _ := hc.c42
  have c9 : w.cell? ⟨q5, 9, none⟩ = some _ := hc.c9
  have HK := hidE k
  clear h hz48 hc k
  go_wp2_with fail
  exact HK.out _ ⟨rfl, rfl, rfl, rfl, rfl, rfl, rfl, rfl, rfl⟩ rfl

set_option maxRecDepth 10000 in
set_option maxHeartbeats 4000000 in
theorem regI5_c {t0 t1 t2 t3 t4 t5 t6 t7 t8 : TypeId} {s0 s1 s2 s3 s4 s5 s6 s7 s8 : String} {id : Nat} {a : Act} {w : World} {Q : Exit → Act → World → Prop} {p0 i q5 n : Nat} {te : Int} {sl : Value} {b : Nat} (h : SlI a p0 b i q5 n sl) (hc : CeC q5 p0 true 2 te sl w)
    (k : ∀ a', SlI a' p0 b i q5 n sl → a'.eval (.tmp 6) = .bool true → Q .normal a' w) :
    Code.wp Try.prog (Code.region id #[⟨some 15, .fieldAddr 76 (.tmp 5) 4, t0, s0, #[], none⟩, ⟨some 16, .load 4 (.tmp 15), t1, s1, #[⟨0, .data⟩], none⟩, ⟨some 17, .move (.tmp 16), t2, s2, #[⟨1, .data⟩], none⟩, ⟨some 18, .fieldAddr 76 (.tmp 5) 0, t3, s3, #[⟨2, .guard⟩], (some (2, true))⟩, ⟨some 19, .fieldAddr 57 (.tmp 18) 2, t4, s4, #[⟨3, .data⟩, ⟨2, .guard⟩], (some (2, true))⟩, ⟨some 20, .load 3 (.tmp 19), t5, s5, #[⟨4, .data⟩, ⟨2, .guard⟩], (some (2, true))⟩, ⟨some 21, .binOp .eql 3 (.tmp 20) (.const (.int .i64 2)) 3, t6, s6, #[⟨5, .data⟩, ⟨2, .guard⟩], (some (2, true))⟩, ⟨some 22, .pick (.tmp 17) (.tmp 21) (.const (.bool false)), t7, s7, #[⟨2, .data⟩, ⟨6, .data⟩], none⟩, ⟨some 6, .assign (.tmp 22), t8, s8, #[⟨7, .data⟩, ⟨2, .chain⟩, ⟨0, .phase⟩, ⟨1, .phase⟩, ⟨2, .phase⟩, ⟨3, .phase⟩, ⟨4, .phase⟩, ⟨5, .phase⟩, ⟨6, .phase⟩, ⟨7, .phase⟩], none⟩] false) Q a w := by
  obtain ⟨⟨l⟩, ds⟩ := a
  have hz0 : l.length = 48 := h.sz
  obtain ⟨x0, l, rfl, hz1⟩ := cons_of hz0
  clear hz0
  obtain ⟨x1, l, rfl, hz2⟩ := cons_of hz1
  clear hz1
  obtain ⟨x2, l, rfl, hz3⟩ := cons_of hz2
  clear hz2
  obtain ⟨x3, l, rfl, hz4⟩ := cons_of hz3
  clear hz3
  obtain ⟨x4, l, rfl, hz5⟩ := cons_of hz4
  clear hz4
  obtain ⟨x5, l, rfl, hz6⟩ := cons_of hz5
  clear hz5
  obtain ⟨x6, l, rfl, hz7⟩ := cons_of hz6
  clear hz6
  obtain ⟨x7, l, rfl, hz8⟩ := cons_of hz7
  clear hz7
  obtain ⟨x8, l, rfl, hz9⟩ := cons_of hz8
  clear hz8
  obtain ⟨x9, l, rfl, hz10⟩ := cons_of hz9
  clear hz9
  obtain ⟨x10, l, rfl, hz11⟩ := cons_of hz10
  clear hz10
  obtain ⟨x11, l, rfl, hz12⟩ := cons_of hz11
  clear hz11
  obtain ⟨x12, l, rfl, hz13⟩ := cons_of hz12
  clear hz12
  obtain ⟨x13, l, rfl, hz14⟩ := cons_of hz13
  clear hz13
  obtain ⟨x14, l, rfl, hz15⟩ := cons_of hz14
  clear hz14
  obtain ⟨x15, l, rfl, hz16⟩ := cons_of hz15
  clear hz15
  obtain ⟨x16, l, rfl, hz17⟩ := cons_of hz16
  clear hz16
  obtain ⟨x17, l, rfl, hz18⟩ := cons_of hz17
  clear hz17
  obtain ⟨x18, l, rfl, hz19⟩ := cons_of hz18
  clear hz18
  obtain ⟨x19, l, rfl, hz20⟩ := cons_of hz19
  clear hz19
  obtain ⟨x20, l, rfl, hz21⟩ := cons_of hz20
  clear hz20
  obtain ⟨x21, l, rfl, hz22⟩ := cons_of hz21
  clear hz21
  obtain ⟨x22, l, rfl, hz23⟩ := cons_of hz22
  clear hz22
  obtain ⟨x23, l, rfl, hz24⟩ := cons_of hz23
  clear hz23
  obtain ⟨x24, l, rfl, hz25⟩ := cons_of hz24
  clear hz24
  obtain ⟨x25, l, rfl, hz26⟩ := cons_of hz25
  clear hz25
  obtain ⟨x26, l, rfl, hz27⟩ := cons_of hz26
  clear hz26
  obtain ⟨x27, l, rfl, hz28⟩ := cons_of hz27
  clear hz27
  obtain ⟨x28, l, rfl, hz29⟩ := cons_of hz28
  clear hz28
  obtain ⟨x29, l, rfl, hz30⟩ := cons_of hz29
  clear hz29
  obtain ⟨x30, l, rfl, hz31⟩ := cons_of hz30
  clear hz30
  obtain ⟨x31, l, rfl, hz32⟩ := cons_of hz31
  clear hz31
  obtain ⟨x32, l, rfl, hz33⟩ := cons_of hz32
  clear hz32
  obtain ⟨x33, l, rfl, hz34⟩ := cons_of hz33
  clear hz33
  obtain ⟨x34, l, rfl, hz35⟩ := cons_of hz34
  clear hz34
  obtain ⟨x35, l, rfl, hz36⟩ := cons_of hz35
  clear hz35
  obtain ⟨x36, l, rfl, hz37⟩ := cons_of hz36
  clear hz36
  obtain ⟨x37, l, rfl, hz38⟩ := cons_of hz37
  clear hz37
  obtain ⟨x38, l, rfl, hz39⟩ := cons_of hz38
  clear hz38
  obtain ⟨x39, l, rfl, hz40⟩ := cons_of hz39
  clear hz39
  obtain ⟨x40, l, rfl, hz41⟩ := cons_of hz40
  clear hz40
  obtain ⟨x41, l, rfl, hz42⟩ := cons_of hz41
  clear hz41
  obtain ⟨x42, l, rfl, hz43⟩ := cons_of hz42
  clear hz42
  obtain ⟨x43, l, rfl, hz44⟩ := cons_of hz43
  clear hz43
  obtain ⟨x44, l, rfl, hz45⟩ := cons_of hz44
  clear hz44
  obtain ⟨x45, l, rfl, hz46⟩ := cons_of hz45
  clear hz45
  obtain ⟨x46, l, rfl, hz47⟩ := cons_of hz46
  clear hz46
  obtain ⟨x47, l, rfl, hz48⟩ := cons_of hz47
  clear hz47
  obtain rfl := List.length_eq_zero_iff.1 hz48
  have y1 : x1 = .pointer (some ⟨p0, 0, none⟩) := h.e1
  have y3 : x3 = .int .i64 b := h.e3
  have y4 : x4 = .int .i64 i := h.e4
  have y5 : x5 = .pointer (some ⟨q5, 0, none⟩) := h.e5
  have y8 : x8 = sl := h.e8
  have y9 : x9 = .int .i64 n := h.e9
  have y10 : x10 = .int .i64 i := h.e10
  have yd : ds = [] := h.df
  subst y1 y3 y4 y5 y8 y9 y10 yd
  have c42 : w.cell? ⟨q5, 42, none⟩ = some _ := hc.c42
  have c9 : w.cell? ⟨q5, 9, none⟩ = some _ := hc.c9
  have HK := hidE k
  clear h hz48 hc k
  go_wp2_with fail
  exact HK.out _ ⟨rfl, rfl, rfl, rfl, rfl, rfl, rfl, rfl, rfl⟩ rfl

set_option maxRecDepth 10000 in
set_option maxHeartbeats 4000000 in
theorem regI6_a {t0 t1 t2 t3 t4 t5 t6 t7 t8 t9 t10 t11 t12 t13 t14 t15 t16 t17 t18 t19 t20 : TypeId} {s0 s1 s2 s3 s4 s5 s6 s7 s8 s9 s10 s11 s12 s13 s14 s15 s16 s17 s18 s19 s20 : String} {id : Nat} {a : Act} {w : World} {Q : Exit → Act → World → Prop} {p0 i q5 n : Nat} {sl : Value} {b : Nat} (hpn : ∀ c a d v w, Q (.panic c) (Act.put a d v) w → Q (.panic c) a w) (h : SlI a p0 b i q5 n sl) (h6 : a.eval (.tmp 6) = .bool false) 
    (k : ∀ a', SlI a' p0 b i q5 n sl → a'.eval (.tmp 43) = .bool false → Q .normal a' w.drew) :
    Code.wp Try.prog (Code.region id #[⟨some 23, .move (.tmp 6), t0, s0, #[], none⟩, ⟨some 24, .move (.tmp 23), t1, s1, #[⟨0, .data⟩], none⟩, ⟨some 25, .move (.tmp 3), t2, s2, #[⟨1, .guard⟩], (some (1, true))⟩, ⟨some 26, .binOp .eql 3 (.tmp 25) (.const (.int .i64 0)) 3, t3, s3, #[⟨2, .data⟩, ⟨1, .guard⟩], (some (1, true))⟩, ⟨some 27, .move (.tmp 26), t4, s4, #[⟨3, .data⟩, ⟨1, .chain⟩, ⟨1, .guard⟩], (some (1, true))⟩, ⟨some 28, .fieldAddr 76 (.tmp 5) 0, t5, s5, #[⟨4, .guard⟩], (some (4, false))⟩, ⟨some 29, .fieldAddr 57 (.tmp 28) 1, t6, s6, #[⟨5, .data⟩, ⟨4, .guard⟩], (some (4, false))⟩, ⟨some 30, .fieldAddr 54 (.tmp 29) 0, t7, s7, #[⟨6, .data⟩, ⟨4, .guard⟩], (some (4, false))⟩, ⟨some 31, .load 3 (.tmp 30), t8, s8, #[⟨7, .data⟩, ⟨4, .guard⟩], (some (4, false))⟩, ⟨some 32, .fieldAddr 31 (.tmp 1) 0, t9, s9, #[⟨4, .guard⟩], (some (4, false))⟩, ⟨some 33, .load 23 (.tmp 32), t10, s10, #[⟨9, .data⟩, ⟨4, .guard⟩], (some (4, false))⟩, ⟨some 34, .move (.tmp 3), t11, s11, #[⟨4, .guard⟩], (some (4, false))⟩, ⟨some 35, .binOp .sub 3 (.tmp 34) (.const (.int .i64 1)) 3, t12, s12, #[⟨11, .data⟩, ⟨4, .guard⟩], (some (4, false))⟩, ⟨some 36, .indexAddr 23 (.tmp 33) (.tmp 35), t13, s13, #[⟨10, .data⟩, ⟨12, .data⟩, ⟨4, .guard⟩], (some (4, false))⟩, ⟨some 37, .fieldAddr 76 (.tmp 36) 0, t14, s14, #[⟨13, .data⟩, ⟨4, .guard⟩], (some (4, false))⟩, ⟨some 38, .fieldAddr 57 (.tmp 37) 1, t15, s15, #[⟨14, .data⟩, ⟨4, .guard⟩], (some (4, false))⟩, ⟨some 39, .fieldAddr 54 (.tmp 38) 0, t16, s16, #[⟨15, .data⟩, ⟨4, .guard⟩], (some (4, false))⟩, ⟨some 40, .load 3 (.tmp 39), t17, s17, #[⟨16, .data⟩, ⟨4, .guard⟩], (some (4, false))⟩, ⟨some 41, .binOp .gtr 3 (.tmp 31) (.tmp 40) 3, t18, s18, #[⟨8, .data⟩, ⟨17, .data⟩, ⟨4, .guard⟩], (some (4, false))⟩, ⟨some 42, .pick (.tmp 27) (.const (.bool true)) (.tmp 41), t19, s19, #[⟨4, .data⟩, ⟨18, .data⟩, ⟨1, .guard⟩], (some (1, true))⟩, ⟨some 43, .pick (.tmp 24) (.tmp 42) (.const (.bool false)), t20, s20, #[⟨1, .data⟩, ⟨19, .data⟩], none⟩] true) Q a w := by
  have hz := h.sz
  have hd := h.df
  refine wp_region_held_drew (S := fun _ => True) (by kernel_rfl) trivial (fun hS => ?_)
  refine dg_val 0 23 (v := .bool false) rfl (by kernel_rfl) hpn rfl (fun V hV => ex_move h6 V) hS ?_
  refine dg_val 1 24 (v := .bool false) rfl (by kernel_rfl) hpn rfl (fun V hV => ex_move (put_eq (by omega)) V) hS ?_
  refine dg_skip 2 25 rfl (by kernel_rfl) hpn (wan_no rfl (put_eq (by rw [put_sz]; omega)) (by decide)) hS ?_
  refine dg_skip 3 26 rfl (by kernel_rfl) hpn (wan_no rfl ((put_ne (by omega)).trans (put_eq (by rw [put_sz]; omega))) (by decide)) hS ?_
  refine dg_skip 4 27 rfl (by kernel_rfl) hpn (wan_no rfl ((put_ne (by omega)).trans ((put_ne (by omega)).trans (put_eq (by rw [put_sz]; omega)))) (by decide)) hS ?_
  refine dg_skip 5 28 rfl (by kernel_rfl) hpn (wan_un rfl (put_eq (by rw [put_sz, put_sz, put_sz, put_sz]; omega))) hS ?_
  refine dg_skip 6 29 rfl (by kernel_rfl) hpn (wan_un rfl ((put_ne (by omega)).trans (put_eq (by rw [put_sz, put_sz, put_sz, put_sz]; omega)))) hS ?_
  refine dg_skip 7 30 rfl (by kernel_rfl) hpn (wan_un rfl ((put_ne (by omega)).trans ((put_ne (by omega)).trans (put_eq (by rw [put_sz, put_sz, put_sz, put_sz]; omega))))) hS ?_
  refine dg_skip 8 31 rfl (by kernel_rfl) hpn (wan_un rfl ((put_ne (by omega)).trans ((put_ne (by omega)).trans ((put_ne (by omega)).trans (put_eq (by rw [put_sz, put_sz, put_sz, put_sz]; omega)))))) hS ?_
  refine dg_skip 9 32 rfl (by kernel_rfl) hpn (wan_un rfl ((put_ne (by omega)).trans ((put_ne (by omega)).trans ((put_ne (by omega)).trans ((put_ne (by omega)).trans (put_eq (by rw [put_sz, put_sz, put_sz, put_sz]; omega))))))) hS ?_
  refine dg_skip 10 33 rfl (by kernel_rfl) hpn (wan_un rfl ((put_ne (by omega)).trans ((put_ne (by omega)).trans ((put_ne (by omega)).trans ((put_ne (by omega)).trans ((put_ne (by omega)).trans (put_eq (by rw [put_sz, put_sz, put_sz, put_sz]; omega)))))))) hS ?_
  refine dg_skip 11 34 rfl (by kernel_rfl) hpn (wan_un rfl ((put_ne (by omega)).trans ((put_ne (by omega)).trans ((put_ne (by omega)).trans ((put_ne (by omega)).trans ((put_ne (by omega)).trans ((put_ne (by omega)).trans (put_eq (by rw [put_sz, put_sz, put_sz, put_sz]; omega))))))))) hS ?_
  refine dg_skip 12 35 rfl (by kernel_rfl) hpn (wan_un rfl ((put_ne (by omega)).trans ((put_ne (by omega)).trans ((put_ne (by omega)).trans ((put_ne (by omega)).trans ((put_ne (by omega)).trans ((put_ne (by omega)).trans ((put_ne (by omega)).trans (put_eq (by rw [put_sz, put_sz, put_sz, put_sz]; omega)))))))))) hS ?_
  refine dg_skip 13 36 rfl (by kernel_rfl) hpn (wan_un rfl ((put_ne (by omega)).trans ((put_ne (by omega)).trans ((put_ne (by omega)).trans ((put_ne (by omega)).trans ((put_ne (by omega)).trans ((put_ne (by omega)).trans ((put_ne (by omega)).trans ((put_ne (by omega)).trans (put_eq (by rw [put_sz, put_sz, put_sz, put_sz]; omega))))))))))) hS ?_
  refine dg_skip 14 37 rfl (by kernel_rfl) hpn (wan_un rfl ((put_ne (by omega)).trans ((put_ne (by omega)).trans ((put_ne (by omega)).trans ((put_ne (by omega)).trans ((put_ne (by omega)).trans ((put_ne (by omega)).trans ((put_ne (by omega)).trans ((put_ne (by omega)).trans ((put_ne (by omega)).trans (put_eq (by rw [put_sz, put_sz, put_sz, put_sz]; omega)))))))))))) hS ?_
  refine dg_skip 15 38 rfl (by kernel_rfl) hpn (wan_un rfl ((put_ne (by omega)).trans ((put_ne (by omega)).trans ((put_ne (by omega)).trans ((put_ne (by omega)).trans ((put_ne (by omega)).trans ((put_ne (by omega)).trans ((put_ne (by omega)).trans ((put_ne (by omega)).trans ((put_ne (by omega)).trans ((put_ne (by omega)).trans (put_eq (by rw [put_sz, put_sz, put_sz, put_sz]; omega))))))))))))) hS ?_
  refine dg_skip 16 39 rfl (by kernel_rfl) hpn (wan_un rfl ((put_ne (by omega)).trans ((put_ne (by omega)).trans ((put_ne (by omega)).trans ((put_ne (by omega)).trans ((put_ne (by omega)).trans ((put_ne (by omega)).trans ((put_ne (by omega)).trans ((put_ne (by omega)).trans ((put_ne (by omega)).trans ((put_ne (by omega)).trans ((put_ne (by omega)).trans (put_eq (by rw [put_sz, put_sz, put_sz, put_sz]; omega)))))))))))))) hS ?_
  refine dg_skip 17 40 rfl (by kernel_rfl) hpn (wan_un rfl ((put_ne (by omega)).trans ((put_ne (by omega)).trans ((put_ne (by omega)).trans ((put_ne (by omega)).trans ((put_ne (by omega)).trans ((put_ne (by omega)).trans ((put_ne (by omega)).trans ((put_ne (by omega)).trans ((put_ne (by omega)).trans ((put_ne (by omega)).trans ((put_ne (by omega)).trans ((put_ne (by omega)).trans (put_eq (by rw [put_sz, put_sz, put_sz, put_sz]; omega))))))))))))))) hS ?_
  refine dg_skip 18 41 rfl (by kernel_rfl) hpn (wan_un rfl ((put_ne (by omega)).trans ((put_ne (by omega)).trans ((put_ne (by omega)).trans ((put_ne (by omega)).trans ((put_ne (by omega)).trans ((put_ne (by omega)).trans ((put_ne (by omega)).trans ((put_ne (by omega)).trans ((put_ne (by omega)).trans ((put_ne (by omega)).trans ((put_ne (by omega)).trans ((put_ne (by omega)).trans ((put_ne (by omega)).trans (put_eq (by rw [put_sz, put_sz, put_sz, put_sz]; omega)))))))))))))))) hS ?_
  refine dg_skip 19 42 rfl (by kernel_rfl) hpn (wan_no rfl ((put_ne (by omega)).trans ((put_ne (by omega)).trans ((put_ne (by omega)).trans ((put_ne (by omega)).trans ((put_ne (by omega)).trans ((put_ne (by omega)).trans ((put_ne (by omega)).trans ((put_ne (by omega)).trans ((put_ne (by omega)).trans ((put_ne (by omega)).trans ((put_ne (by omega)).trans ((put_ne (by omega)).trans ((put_ne (by omega)).trans ((put_ne (by omega)).trans ((put_ne (by omega)).trans ((put_ne (by omega)).trans ((put_ne (by omega)).trans (put_eq (by rw [put_sz]; omega))))))))))))))))))) (by decide)) hS ?_
  refine dg_val 20 43 (v := .bool false) rfl (by kernel_rfl) hpn rfl (fun V hV => ex_pickF ((put_ne (by omega)).trans ((put_ne (by omega)).trans ((put_ne (by omega)).trans ((put_ne (by omega)).trans ((put_ne (by omega)).trans ((put_ne (by omega)).trans ((put_ne (by omega)).trans ((put_ne (by omega)).trans ((put_ne (by omega)).trans ((put_ne (by omega)).trans ((put_ne (by omega)).trans ((put_ne (by omega)).trans ((put_ne (by omega)).trans ((put_ne (by omega)).trans ((put_ne (by omega)).trans ((put_ne (by omega)).trans ((put_ne (by omega)).trans ((put_ne (by omega)).trans (put_eq (by rw [put_sz]; omega)))))))))))))))))))) rfl V) hS ?_
  exact ⟨by kernel_rfl, k _ ⟨put_sz.trans (put_sz.trans (put_sz.trans (put_sz.trans (put_sz.trans (put_sz.trans (put_sz.trans (put_sz.trans (put_sz.trans (put_sz.trans (put_sz.trans (put_sz.trans (put_sz.trans (put_sz.trans (put_sz.trans (put_sz.trans (put_sz.trans (put_sz.trans (put_sz.trans (put_sz.trans (put_sz.trans (hz))))))))))))))))))))), put_df.trans (put_df.trans (put_df.trans (put_df.trans (put_df.trans (put_df.trans (put_df.trans (put_df.trans (put_df.trans (put_df.trans (put_df.trans (put_df.trans (put_df.trans (put_df.trans (put_df.trans (put_df.trans (put_df.trans (put_df.trans (put_df.trans (put_df.trans (put_df.trans (hd))))))))))))))))))))), ((put_ne (by omega)).trans ((put_ne (by omega)).trans ((put_ne (by omega)).trans ((put_ne (by omega)).trans ((put_ne (by omega)).trans ((put_ne (by omega)).trans ((put_ne (by omega)).trans ((put_ne (by omega)).trans ((put_ne (by omega)).trans ((put_ne (by omega)).trans ((put_ne (by omega)).trans ((put_ne (by omega)).trans ((put_ne (by omega)).trans ((put_ne (by omega)).trans ((put_ne (by omega)).trans ((put_ne (by omega)).trans ((put_ne (by omega)).trans ((put_ne (by omega)).trans ((put_ne (by omega)).trans ((put_ne (by omega)).trans ((put_ne (by omega)).trans h.e1))))))))))))))))))))), ((put_ne (by omega)).trans ((put_ne (by omega)).trans ((put_ne (by omega)).trans ((put_ne (by omega)).trans ((put_ne (by omega)).trans ((put_ne (by omega)).trans ((put_ne (by omega)).trans ((put_ne (by omega)).trans ((put_ne (by omega)).trans ((put_ne (by omega)).trans ((put_ne (by omega)).trans ((put_ne (by omega)).trans ((put_ne (by omega)).trans ((put_ne (by omega)).trans ((put_ne (by omega)).trans ((put_ne (by omega)).trans ((put_ne (by omega)).trans ((put_ne (by omega)).trans ((put_ne (by omega)).trans ((put_ne (by omega)).trans ((put_ne (by omega)).trans h.e3))))))))))))))))))))), ((put_ne (by omega)).trans ((put_ne (by omega)).trans ((put_ne (by omega)).trans ((put_ne (by omega)).trans ((put_ne (by omega)).trans ((put_ne (by omega)).trans ((put_ne (by omega)).trans ((put_ne (by omega)).trans ((put_ne (by omega)).trans ((put_ne (by omega)).trans ((put_ne (by omega)).trans ((put_ne (by omega)).trans ((put_ne (by omega)).trans ((put_ne (by omega)).trans ((put_ne (by omega)).trans ((put_ne (by omega)).trans ((put_ne (by omega)).trans ((put_ne (by omega)).trans ((put_ne (by omega)).trans ((put_ne (by omega)).trans ((put_ne (by omega)).trans h.e4))))))))))))))))))))), ((put_ne (by omega)).trans ((put_ne (by omega)).trans ((put_ne (by omega)).trans ((put_ne (by omega)).trans ((put_ne (by omega)).trans ((put_ne (by omega)).trans ((put_ne (by omega)).trans ((put_ne (by omega)).trans ((put_ne (by omega)).trans ((put_ne (by omega)).trans ((put_ne (by omega)).trans ((put_ne (by omega)).trans ((put_ne (by omega)).trans ((put_ne (by omega)).trans ((put_ne (by omega)).trans ((put_ne (by omega)).trans ((put_ne (by omega)).trans ((put_ne (by omega)).trans ((put_ne (by omega)).trans ((put_ne (by omega)).trans ((put_ne (by omega)).trans h.e5))))))))))))))))))))), ((put_ne (by omega)).trans ((put_ne (by omega)).trans ((put_ne (by omega)).trans ((put_ne (by omega)).trans ((put_ne (by omega)).trans ((put_ne (by omega)).trans ((put_ne (by omega)).trans ((put_ne (by omega)).trans ((put_ne (by omega)).trans ((put_ne (by omega)).trans ((put_ne (by omega)).trans ((put_ne (by omega)).trans ((put_ne (by omega)).trans ((put_ne (by omega)).trans ((put_ne (by omega)).trans ((put_ne (by omega)).trans ((put_ne (by omega)).trans ((put_ne (by omega)).trans ((put_ne (by omega)).trans ((put_ne (by omega)).trans ((put_ne (by omega)).trans h.e8))))))))))))))))))))), ((put_ne (by omega)).trans ((put_ne (by omega)).trans ((put_ne (by omega)).trans ((put_ne (by omega)).trans ((put_ne (by omega)).trans ((put_ne (by omega)).trans ((put_ne (by omega)).trans ((put_ne (by omega)).trans ((put_ne (by omega)).trans ((put_ne (by omega)).trans ((put_ne (by omega)).trans ((put_ne (by omega)).trans ((put_ne (by omega)).trans ((put_ne (by omega)).trans ((put_ne (by omega)).trans ((put_ne (by omega)).trans ((put_ne (by omega)).trans ((put_ne (by omega)).trans ((put_ne (by omega)).trans ((put_ne (by omega)).trans ((put_ne (by omega)).trans h.e9))))))))))))))))))))), ((put_ne (by omega)).trans ((put_ne (by omega)).trans ((put_ne (by omega)).trans ((put_ne (by omega)).trans ((put_ne (by omega)).trans ((put_ne (by omega)).trans ((put_ne (by omega)).trans ((put_ne (by omega)).trans ((put_ne (by omega)).trans ((put_ne (by omega)).trans ((put_ne (by omega)).trans ((put_ne (by omega)).trans ((put_ne (by omega)).trans ((put_ne (by omega)).trans ((put_ne (by omega)).trans ((put_ne (by omega)).trans ((put_ne (by omega)).trans ((put_ne (by omega)).trans ((put_ne (by omega)).trans ((put_ne (by omega)).trans ((put_ne (by omega)).trans h.e10)))))))))))))))))))))⟩ (put_eq (by rw [put_sz, put_sz, put_sz, put_sz, put_sz, put_sz, put_sz, put_sz, put_sz, put_sz, put_sz, put_sz, put_sz, put_sz, put_sz, put_sz, put_sz, put_sz, put_sz, put_sz]; omega))⟩

set_option maxRecDepth 10000 in
set_option maxHeartbeats 4000000 in
theorem regI6_b {t0 t1 t2 t3 t4 t5 t6 t7 t8 t9 t10 t11 t12 t13 t14 t15 t16 t17 t18 t19 t20 : TypeId} {s0 s1 s2 s3 s4 s5 s6 s7 s8 s9 s10 s11 s12 s13 s14 s15 s16 s17 s18 s19 s20 : String} {id : Nat} {a : Act} {w : World} {Q : Exit → Act → World → Prop} {p0 i q5 n : Nat} {sl : Value} (hpn : ∀ c a d v w, Q (.panic c) (Act.put a d v) w → Q (.panic c) a w) (h : SlI a p0 (0 : Nat) i q5 n sl) (h6 : a.eval (.tmp 6) = .bool true) 
    (k : ∀ a', SlI a' p0 (0 : Nat) i q5 n sl → a'.eval (.tmp 43) = .bool true → Q .normal a' w.drew) :
    Code.wp Try.prog (Code.region id #[⟨some 23, .move (.tmp 6), t0, s0, #[], none⟩, ⟨some 24, .move (.tmp 23), t1, s1, #[⟨0, .data⟩], none⟩, ⟨some 25, .move (.tmp 3), t2, s2, #[⟨1, .guard⟩], (some (1, true))⟩, ⟨some 26, .binOp .eql 3 (.tmp 25) (.const (.int .i64 0)) 3, t3, s3, #[⟨2, .data⟩, ⟨1, .guard⟩], (some (1, true))⟩, ⟨some 27, .move (.tmp 26), t4, s4, #[⟨3, .data⟩, ⟨1, .chain⟩, ⟨1, .guard⟩], (some (1, true))⟩, ⟨some 28, .fieldAddr 76 (.tmp 5) 0, t5, s5, #[⟨4, .guard⟩], (some (4, false))⟩, ⟨some 29, .fieldAddr 57 (.tmp 28) 1, t6, s6, #[⟨5, .data⟩, ⟨4, .guard⟩], (some (4, false))⟩, ⟨some 30, .fieldAddr 54 (.tmp 29) 0, t7, s7, #[⟨6, .data⟩, ⟨4, .guard⟩], (some (4, false))⟩, ⟨some 31, .load 3 (.tmp 30), t8, s8, #[⟨7, .data⟩, ⟨4, .guard⟩], (some (4, false))⟩, ⟨some 32, .fieldAddr 31 (.tmp 1) 0, t9, s9, #[⟨4, .guard⟩], (some (4, false))⟩, ⟨some 33, .load 23 (.tmp 32), t10, s10, #[⟨9, .data⟩, ⟨4, .guard⟩], (some (4, false))⟩, ⟨some 34, .move (.tmp 3), t11, s11, #[⟨4, .guard⟩], (some (4, false))⟩, ⟨some 35, .binOp .sub 3 (.tmp 34) (.const (.int .i64 1)) 3, t12, s12, #[⟨11, .data⟩, ⟨4, .guard⟩], (some (4, false))⟩, ⟨some 36, .indexAddr 23 (.tmp 33) (.tmp 35), t13, s13, #[⟨10, .data⟩, ⟨12, .data⟩, ⟨4, .guard⟩], (some (4, false))⟩, ⟨some 37, .fieldAddr 76 (.tmp 36) 0, t14, s14, #[⟨13, .data⟩, ⟨4, .guard⟩], (some (4, false))⟩, ⟨some 38, .fieldAddr 57 (.tmp 37) 1, t15, s15, #[⟨14, .data⟩, ⟨4, .guard⟩], (some (4, false))⟩, ⟨some 39, .fieldAddr 54 (.tmp 38) 0, t16, s16, #[⟨15, .data⟩, ⟨4, .guard⟩], (some (4, false))⟩, ⟨some 40, .load 3 (.tmp 39), t17, s17, #[⟨16, .data⟩, ⟨4, .guard⟩], (some (4, false))⟩, ⟨some 41, .binOp .gtr 3 (.tmp 31) (.tmp 40) 3, t18, s18, #[⟨8, .data⟩, ⟨17, .data⟩, ⟨4, .guard⟩], (some (4, false))⟩, ⟨some 42, .pick (.tmp 27) (.const (.bool true)) (.tmp 41), t19, s19, #[⟨4, .data⟩, ⟨18, .data⟩, ⟨1, .guard⟩], (some (1, true))⟩, ⟨some 43, .pick (.tmp 24) (.tmp 42) (.const (.bool false)), t20, s20, #[⟨1, .data⟩, ⟨19, .data⟩], none⟩] true) Q a w := by
  have hz := h.sz
  have hd := h.df
  refine wp_region_held_drew (S := fun _ => True) (by kernel_rfl) trivial (fun hS => ?_)
  refine dg_val 0 23 (v := .bool true) rfl (by kernel_rfl) hpn rfl (fun V hV => ex_move h6 V) hS ?_
  refine dg_val 1 24 (v := .bool true) rfl (by kernel_rfl) hpn rfl (fun V hV => ex_move (put_eq (by omega)) V) hS ?_
  refine dg_val 2 25 (v := .int .i64 (0 : Nat)) rfl (by kernel_rfl) hpn (wan_yes rfl (put_eq (by rw [put_sz]; omega)) (by rw [put_sz, put_sz]; omega)) (fun V hV => ex_move ((put_ne (by omega)).trans ((put_ne (by omega)).trans h.e3)) V) hS ?_
  refine dg_val 3 26 (v := .bool true) rfl (by kernel_rfl) hpn (wan_yes rfl ((put_ne (by omega)).trans (put_eq (by rw [put_sz]; omega))) (by rw [put_sz, put_sz, put_sz]; omega)) (fun V hV => ex_bin (put_eq (by rw [put_sz, put_sz]; omega)) rfl V (run_eqi V)) hS ?_
  refine dg_val 4 27 (v := .bool true) rfl (by kernel_rfl) hpn (wan_yes rfl ((put_ne (by omega)).trans ((put_ne (by omega)).trans (put_eq (by rw [put_sz]; omega)))) (by rw [put_sz, put_sz, put_sz, put_sz]; omega)) (fun V hV => ex_move (put_eq (by rw [put_sz, put_sz, put_sz]; omega)) V) hS ?_
  refine dg_skip 5 28 rfl (by kernel_rfl) hpn (wan_no rfl (put_eq (by rw [put_sz, put_sz, put_sz, put_sz]; omega)) (by decide)) hS ?_
  refine dg_skip 6 29 rfl (by kernel_rfl) hpn (wan_no rfl ((put_ne (by omega)).trans (put_eq (by rw [put_sz, put_sz, put_sz, put_sz]; omega))) (by decide)) hS ?_
  refine dg_skip 7 30 rfl (by kernel_rfl) hpn (wan_no rfl ((put_ne (by omega)).trans ((put_ne (by omega)).trans (put_eq (by rw [put_sz, put_sz, put_sz, put_sz]; omega)))) (by decide)) hS ?_
  refine dg_skip 8 31 rfl (by kernel_rfl) hpn (wan_no rfl ((put_ne (by omega)).trans ((put_ne (by omega)).trans ((put_ne (by omega)).trans (put_eq (by rw [put_sz, put_sz, put_sz, put_sz]; omega))))) (by decide)) hS ?_
  refine dg_skip 9 32 rfl (by kernel_rfl) hpn (wan_no rfl ((put_ne (by omega)).trans ((put_ne (by omega)).trans ((put_ne (by omega)).trans ((put_ne (by omega)).trans (put_eq (by rw [put_sz, put_sz, put_sz, put_sz]; omega)))))) (by decide)) hS ?_
  refine dg_skip 10 33 rfl (by kernel_rfl) hpn (wan_no rfl ((put_ne (by omega)).trans ((put_ne (by omega)).trans ((put_ne (by omega)).trans ((put_ne (by omega)).trans ((put_ne (by omega)).trans (put_eq (by rw [put_sz, put_sz, put_sz, put_sz]; omega))))))) (by decide)) hS ?_
  refine dg_skip 11 34 rfl (by kernel_rfl) hpn (wan_no rfl ((put_ne (by omega)).trans ((put_ne (by omega)).trans ((put_ne (by omega)).trans ((put_ne (by omega)).trans ((put_ne (by omega)).trans ((put_ne (by omega)).trans (put_eq (by rw [put_sz, put_sz, put_sz, put_sz]; omega)))))))) (by decide)) hS ?_
  refine dg_skip 12 35 rfl (by kernel_rfl) hpn (wan_no rfl ((put_ne (by omega)).trans ((put_ne (by omega)).trans ((put_ne (by omega)).trans ((put_ne (by omega)).trans ((put_ne (by omega)).trans ((put_ne (by omega)).trans ((put_ne (by omega)).trans (put_eq (by rw [put_sz, put_sz, put_sz, put_sz]; omega))))))))) (by decide)) hS ?_
  refine dg_skip 13 36 rfl (by kernel_rfl) hpn (wan_no rfl ((put_ne (by omega)).trans ((put_ne (by omega)).trans ((put_ne (by omega)).trans ((put_ne (by omega)).trans ((put_ne (by omega)).trans ((put_ne (by omega)).trans ((put_ne (by omega)).trans ((put_ne (by omega)).trans (put_eq (by rw [put_sz, put_sz, put_sz, put_sz]; omega)))))))))) (by decide)) hS ?_
  refine dg_skip 14 37 rfl (by kernel_rfl) hpn (wan_no rfl ((put_ne (by omega)).trans ((put_ne (by omega)).trans ((put_ne (by omega)).trans ((put_ne (by omega)).trans ((put_ne (by omega)).trans ((put_ne (by omega)).trans ((put_ne (by omega)).trans ((put_ne (by omega)).trans ((put_ne (by omega)).trans (put_eq (by rw [put_sz, put_sz, put_sz, put_sz]; omega))))))))))) (by decide)) hS ?_
  refine dg_skip 15 38 rfl (by kernel_rfl) hpn (wan_no rfl ((put_ne (by omega)).trans ((put_ne (by omega)).trans ((put_ne (by omega)).trans ((put_ne (by omega)).trans ((put_ne (by omega)).trans ((put_ne (by omega)).trans ((put_ne (by omega)).trans ((put_ne (by omega)).trans ((put_ne (by omega)).trans ((put_ne (by omega)).trans (put_eq (by rw [put_sz, put_sz, put_sz, put_sz]; omega)))))))))))) (by decide)) hS ?_
  refine dg_skip 16 39 rfl (by kernel_rfl) hpn (wan_no rfl ((put_ne (by omega)).trans ((put_ne (by omega)).trans ((put_ne (by omega)).trans ((put_ne (by omega)).trans ((put_ne (by omega)).trans ((put_ne (by omega)).trans ((put_ne (by omega)).trans ((put_ne (by omega)).trans ((put_ne (by omega)).trans ((put_ne (by omega)).trans ((put_ne (by omega)).trans (put_eq (by rw [put_sz, put_sz, put_sz, put_sz]; omega))))))))))))) (by decide)) hS ?_
  refine dg_skip 17 40 rfl (by kernel_rfl) hpn (wan_no rfl ((put_ne (by omega)).trans ((put_ne (by omega)).trans ((put_ne (by omega)).trans ((put_ne (by omega)).trans ((put_ne (by omega)).trans ((put_ne (by omega)).trans ((put_ne (by omega)).trans ((put_ne (by omega)).trans ((put_ne (by omega)).trans ((put_ne (by omega)).trans ((put_ne (by omega)).trans ((put_ne (by omega)).trans (put_eq (by rw [put_sz, put_sz, put_sz, put_sz]; omega)))))))))))))) (by decide)) hS ?_
  refine dg_skip 18 41 rfl (by kernel_rfl) hpn (wan_no rfl ((put_ne (by omega)).trans ((put_ne (by omega)).trans ((put_ne (by omega)).trans ((put_ne (by omega)).trans ((put_ne (by omega)).trans ((put_ne (by omega)).trans ((put_ne (by omega)).trans ((put_ne (by omega)).trans ((put_ne (by omega)).trans ((put_ne (by omega)).trans ((put_ne (by omega)).trans ((put_ne (by omega)).trans ((put_ne (by omega)).trans (put_eq (by rw [put_sz, put_sz, put_sz, put_sz]; omega))))))))))))))) (by decide)) hS ?_
  refine dg_val 19 42 (v := .bool true) rfl (by kernel_rfl) hpn (wan_yes rfl ((put_ne (by omega)).trans ((put_ne (by omega)).trans ((put_ne (by omega)).trans ((put_ne (by omega)).trans ((put_ne (by omega)).trans ((put_ne (by omega)).trans ((put_ne (by omega)).trans ((put_ne (by omega)).trans ((put_ne (by omega)).trans ((put_ne (by omega)).trans ((put_ne (by omega)).trans ((put_ne (by omega)).trans ((put_ne (by omega)).trans ((put_ne (by omega)).trans ((put_ne (by omega)).trans ((put_ne (by omega)).trans ((put_ne (by omega)).trans (put_eq (by rw [put_sz]; omega))))))))))))))))))) (by rw [put_sz, put_sz, put_sz, put_sz, put_sz, put_sz, put_sz, put_sz, put_sz, put_sz, put_sz, put_sz, put_sz, put_sz, put_sz, put_sz, put_sz, put_sz, put_sz]; omega)) (fun V hV => ex_pickT ((put_ne (by omega)).trans ((put_ne (by omega)).trans ((put_ne (by omega)).trans ((put_ne (by omega)).trans ((put_ne (by omega)).trans ((put_ne (by omega)).trans ((put_ne (by omega)).trans ((put_ne (by omega)).trans ((put_ne (by omega)).trans ((put_ne (by omega)).trans ((put_ne (by omega)).trans ((put_ne (by omega)).trans ((put_ne (by omega)).trans ((put_ne (by omega)).trans (put_eq (by rw [put_sz, put_sz, put_sz, put_sz]; omega)))))))))))))))) rfl V) hS ?_
  refine dg_val 20 43 (v := .bool true) rfl (by kernel_rfl) hpn rfl (fun V hV => ex_pickT ((put_ne (by omega)).trans ((put_ne (by omega)).trans ((put_ne (by omega)).trans ((put_ne (by omega)).trans ((put_ne (by omega)).trans ((put_ne (by omega)).trans ((put_ne (by omega)).trans ((put_ne (by omega)).trans ((put_ne (by omega)).trans ((put_ne (by omega)).trans ((put_ne (by omega)).trans ((put_ne (by omega)).trans ((put_ne (by omega)).trans ((put_ne (by omega)).trans ((put_ne (by omega)).trans ((put_ne (by omega)).trans ((put_ne (by omega)).trans ((put_ne (by omega)).trans (put_eq (by rw [put_sz]; omega)))))))))))))))))))) (put_eq (by rw [put_sz, put_sz, put_sz, put_sz, put_sz, put_sz, put_sz, put_sz, put_sz, put_sz, put_sz, put_sz, put_sz, put_sz, put_sz, put_sz, put_sz, put_sz, put_sz]; omega)) V) hS ?_
  exact ⟨by kernel_rfl, k _ ⟨put_sz.trans (put_sz.trans (put_sz.trans (put_sz.trans (put_sz.trans (put_sz.trans (put_sz.trans (put_sz.trans (put_sz.trans (put_sz.trans (put_sz.trans (put_sz.trans (put_sz.trans (put_sz.trans (put_sz.trans (put_sz.trans (put_sz.trans (put_sz.trans (put_sz.trans (put_sz.trans (put_sz.trans (hz))))))))))))))))))))), put_df.trans (put_df.trans (put_df.trans (put_df.trans (put_df.trans (put_df.trans (put_df.trans (put_df.trans (put_df.trans (put_df.trans (put_df.trans (put_df.trans (put_df.trans (put_df.trans (put_df.trans (put_df.trans (put_df.trans (put_df.trans (put_df.trans (put_df.trans (put_df.trans (hd))))))))))))))))))))), ((put_ne (by omega)).trans ((put_ne (by omega)).trans ((put_ne (by omega)).trans ((put_ne (by omega)).trans ((put_ne (by omega)).trans ((put_ne (by omega)).trans ((put_ne (by omega)).trans ((put_ne (by omega)).trans ((put_ne (by omega)).trans ((put_ne (by omega)).trans ((put_ne (by omega)).trans ((put_ne (by omega)).trans ((put_ne (by omega)).trans ((put_ne (by omega)).trans ((put_ne (by omega)).trans ((put_ne (by omega)).trans ((put_ne (by omega)).trans ((put_ne (by omega)).trans ((put_ne (by omega)).trans ((put_ne (by omega)).trans ((put_ne (by omega)).trans h.e1))))))))))))))))))))), ((put_ne (by omega)).trans ((put_ne (by omega)).trans ((put_ne (by omega)).trans ((put_ne (by omega)).trans ((put_ne (by omega)).trans ((put_ne (by omega)).trans ((put_ne (by omega)).trans ((put_ne (by omega)).trans ((put_ne (by omega)).trans ((put_ne (by omega)).trans ((put_ne (by omega)).trans ((put_ne (by omega)).trans ((put_ne (by omega)).trans ((put_ne (by omega)).trans ((put_ne (by omega)).trans ((put_ne (by omega)).trans ((put_ne (by omega)).trans ((put_ne (by omega)).trans ((put_ne (by omega)).trans ((put_ne (by omega)).trans ((put_ne (by omega)).trans h.e3))))))))))))))))))))), ((put_ne (by omega)).trans ((put_ne (by omega)).trans ((put_ne (by omega)).trans ((put_ne (by omega)).trans ((put_ne (by omega)).trans ((put_ne (by omega)).trans ((put_ne (by omega)).trans ((put_ne (by omega)).trans ((put_ne (by omega)).trans ((put_ne (by omega)).trans ((put_ne (by omega)).trans ((put_ne (by omega)).trans ((put_ne (by omega)).trans ((put_ne (by omega)).trans ((put_ne (by omega)).trans ((put_ne (by omega)).trans ((put_ne (by omega)).trans ((put_ne (by omega)).trans ((put_ne (by omega)).trans ((put_ne (by omega)).trans ((put_ne (by omega)).trans h.e4))))))))))))))))))))), ((put_ne (by omega)).trans ((put_ne (by omega)).trans ((put_ne (by omega)).trans ((put_ne (by omega)).trans ((put_ne (by omega)).trans ((put_ne (by omega)).trans ((put_ne (by omega)).trans ((put_ne (by omega)).trans ((put_ne (by omega)).trans ((put_ne (by omega)).trans ((put_ne (by omega)).trans ((put_ne (by omega)).trans ((put_ne (by omega)).trans ((put_ne (by omega)).trans ((put_ne (by omega)).trans ((put_ne (by omega)).trans ((put_ne (by omega)).trans ((put_ne (by omega)).trans ((put_ne (by omega)).trans ((put_ne (by omega)).trans ((put_ne (by omega)).trans h.e5))))))))))))))))))))), ((put_ne (by omega)).trans ((put_ne (by omega)).trans ((put_ne (by omega)).trans ((put_ne (by omega)).trans ((put_ne (by omega)).trans ((put_ne (by omega)).trans ((put_ne (by omega)).trans ((put_ne (by omega)).trans ((put_ne (by omega)).trans ((put_ne (by omega)).trans ((put_ne (by omega)).trans ((put_ne (by omega)).trans ((put_ne (by omega)).trans ((put_ne (by omega)).trans ((put_ne (by omega)).trans ((put_ne (by omega)).trans ((put_ne (by omega)).trans ((put_ne (by omega)).trans ((put_ne (by omega)).trans ((put_ne (by omega)).trans ((put_ne (by omega)).trans h.e8))))))))))))))))))))), ((put_ne (by omega)).trans ((put_ne (by omega)).trans ((put_ne (by omega)).trans ((put_ne (by omega)).trans ((put_ne (by omega)).trans ((put_ne (by omega)).trans ((put_ne (by omega)).trans ((put_ne (by omega)).trans ((put_ne (by omega)).trans ((put_ne (by omega)).trans ((put_ne (by omega)).trans ((put_ne (by omega)).trans ((put_ne (by omega)).trans ((put_ne (by omega)).trans ((put_ne (by omega)).trans ((put_ne (by omega)).trans ((put_ne (by omega)).trans ((put_ne (by omega)).trans ((put_ne (by omega)).trans ((put_ne (by omega)).trans ((put_ne (by omega)).trans h.e9))))))))))))))))))))), ((put_ne (by omega)).trans ((put_ne (by omega)).trans ((put_ne (by omega)).trans ((put_ne (by omega)).trans ((put_ne (by omega)).trans ((put_ne (by omega)).trans ((put_ne (by omega)).trans ((put_ne (by omega)).trans ((put_ne (by omega)).trans ((put_ne (by omega)).trans ((put_ne (by omega)).trans ((put_ne (by omega)).trans ((put_ne (by omega)).trans ((put_ne (by omega)).trans ((put_ne (by omega)).trans ((put_ne (by omega)).trans ((put_ne (by omega)).trans ((put_ne (by omega)).trans ((put_ne (by omega)).trans ((put_ne (by omega)).trans ((put_ne (by omega)).trans h.e10)))))))))))))))))))))⟩ (put_eq (by rw [put_sz, put_sz, put_sz, put_sz, put_sz, put_sz, put_sz, put_sz, put_sz, put_sz, put_sz, put_sz, put_sz, put_sz, put_sz, put_sz, put_sz, put_sz, put_sz, put_sz]; omega))⟩

set_option maxRecDepth 10000 in
set_option maxHeartbeats 4000000 in
theorem regI6_c {t0 t1 t2 t3 t4 t5 t6 t7 t8 t9 t10 t11 t12 t13 t14 t15 t16 t17 t18 t19 t20 : TypeId} {s0 s1 s2 s3 s4 s5 s6 s7 s8 s9 s10 s11 s12 s13 s14 s15 s16 s17 s18 s19 s20 : String} {id : Nat} {a : Act} {w : World} {Q : Exit → Act → World → Prop} {p0 i q5 n : Nat} {up : Bool} {ro te tm : Int} {m pr qo nn cc : Nat} (hm : m < nn) (hmb : nn ≤ 1048576) (hpn : ∀ c a d v w, Q (.panic c) (Act.put a d v) w → Q (.panic c) a w) (h : SlI a p0 (m + 1 : Nat) i q5 n (.slice (some ⟨pr, qo, none⟩) nn cc)) (h6 : a.eval (.tmp 6) = .bool true) (hc : CeC q5 p0 up ro te (.slice (some ⟨pr, qo, none⟩) nn cc) w) (hc2 : w.cell? ⟨pr, qo + m * 43 + 0 + 1 + 0, none⟩ = some (.int .i64 tm))
    (k : ∀ a', SlI a' p0 (m + 1 : Nat) i q5 n (.slice (some ⟨pr, qo, none⟩) nn cc) → a'.eval (.tmp 43) = .bool (decide (te > tm)) → Q .normal a' w.drew) :
    Code.wp Try.prog (Code.region id #[⟨some 23, .move (.tmp 6), t0, s0, #[], none⟩, ⟨some 24, .move (.tmp 23), t1, s1, #[⟨0, .data⟩], none⟩, ⟨some 25, .move (.tmp 3), t2, s2, #[⟨1, .guard⟩], (some (1, true))⟩, ⟨some 26, .binOp .eql 3 (.tmp 25) (.const (.int .i64 0)) 3, t3, s3, #[⟨2, .data⟩, ⟨1, .guard⟩], (some (1, true))⟩, ⟨some 27, .move (.tmp 26), t4, s4, #[⟨3, .data⟩, ⟨1, .chain⟩, ⟨1, .guard⟩], (some (1, true))⟩, ⟨some 28, .fieldAddr 76 (.tmp 5) 0, t5, s5, #[⟨4, .guard⟩], (some (4, false))⟩, ⟨some 29, .fieldAddr 57 (.tmp 28) 1, t6, s6, #[⟨5, .data⟩, ⟨4, .guard⟩], (some (4, false))⟩, ⟨some 30, .fieldAddr 54 (.tmp 29) 0, t7, s7, #[⟨6, .data⟩, ⟨4, .guard⟩], (some (4, false))⟩, ⟨some 31, .load 3 (.tmp 30), t8, s8, #[⟨7, .data⟩, ⟨4, .guard⟩], (some (4, false))⟩, ⟨some 32, .fieldAddr 31 (.tmp 1) 0, t9, s9, #[⟨4, .guard⟩], (some (4, false))⟩, ⟨some 33, .load 23 (.tmp 32), t10, s10, #[⟨9, .data⟩, ⟨4, .guard⟩], (some (4, false))⟩, ⟨some 34, .move (.tmp 3), t11, s11, #[⟨4, .guard⟩], (some (4, false))⟩, ⟨some 35, .binOp .sub 3 (.tmp 34) (.const (.int .i64 1)) 3, t12, s12, #[⟨11, .data⟩, ⟨4, .guard⟩], (some (4, false))⟩, ⟨some 36, .indexAddr 23 (.tmp 33) (.tmp 35), t13, s13, #[⟨10, .data⟩, ⟨12, .data⟩, ⟨4, .guard⟩], (some (4, false))⟩, ⟨some 37, .fieldAddr 76 (.tmp 36) 0, t14, s14, #[⟨13, .data⟩, ⟨4, .guard⟩], (some (4, false))⟩, ⟨some 38, .fieldAddr 57 (.tmp 37) 1, t15, s15, #[⟨14, .data⟩, ⟨4, .guard⟩], (some (4, false))⟩, ⟨some 39, .fieldAddr 54 (.tmp 38) 0, t16, s16, #[⟨15, .data⟩, ⟨4, .guard⟩], (some (4, false))⟩, ⟨some 40, .load 3 (.tmp 39), t17, s17, #[⟨16, .data⟩, ⟨4, .guard⟩], (some (4, false))⟩, ⟨some 41, .binOp .gtr 3 (.tmp 31) (.tmp 40) 3, t18, s18, #[⟨8, .data⟩, ⟨17, .data⟩, ⟨4, .guard⟩], (some (4, false))⟩, ⟨some 42, .pick (.tmp 27) (.const (.bool true)) (.tmp 41), t19, s19, #[⟨4, .data⟩, ⟨18, .data⟩, ⟨1, .guard⟩], (some (1, true))⟩, ⟨some 43, .pick (.tmp 24) (.tmp 42) (.const (.bool false)), t20, s20, #[⟨1, .data⟩, ⟨19, .data⟩], none⟩] true) Q a w := by
  have hz := h.sz
  have hd := h.df
  refine wp_region_held_drew (S := fun V => CeC q5 p0 up ro te (.slice (some ⟨pr, qo, none⟩) nn cc) V ∧ V.cell? ⟨pr, qo + m * 43 + 0 + 1 + 0, none⟩ = some (.int .i64 tm)) (by kernel_rfl) ⟨⟨hc.c42, hc.c9, hc.c1, hc.c0⟩, hc2⟩ (fun hS => ?_)
  refine dg_val 0 23 (v := .bool true) rfl (by kernel_rfl) hpn rfl (fun V hV => ex_move h6 V) hS ?_
  refine dg_val 1 24 (v := .bool true) rfl (by kernel_rfl) hpn rfl (fun V hV => ex_move (put_eq (by omega)) V) hS ?_
  refine dg_val 2 25 (v := .int .i64 (m + 1 : Nat)) rfl (by kernel_rfl) hpn (wan_yes rfl (put_eq (by rw [put_sz]; omega)) (by rw [put_sz, put_sz]; omega)) (fun V hV => ex_move ((put_ne (by omega)).trans ((put_ne (by omega)).trans h.e3)) V) hS ?_
  refine dg_val 3 26 (v := .bool false) rfl (by kernel_rfl) hpn (wan_yes rfl ((put_ne (by omega)).trans (put_eq (by rw [put_sz]; omega))) (by rw [put_sz, put_sz, put_sz]; omega)) (fun V hV => ex_bin (put_eq (by rw [put_sz, put_sz]; omega)) rfl V ((run_eqi V).trans (by rw [beq_false_of_ne (by omega)]))) hS ?_
  refine dg_val 4 27 (v := .bool false) rfl (by kernel_rfl) hpn (wan_yes rfl ((put_ne (by omega)).trans ((put_ne (by omega)).trans (put_eq (by rw [put_sz]; omega)))) (by rw [put_sz, put_sz, put_sz, put_sz]; omega)) (fun V hV => ex_move (put_eq (by rw [put_sz, put_sz, put_sz]; omega)) V) hS ?_
  refine dg_val 5 28 (v := .pointer (some ⟨q5, 0 + 0, none⟩)) rfl (by kernel_rfl) hpn (wan_yes rfl (put_eq (by rw [put_sz, put_sz, put_sz, put_sz]; omega)) (by rw [put_sz, put_sz, put_sz, put_sz, put_sz]; omega)) (fun V hV => ex_field ((put_ne (by omega)).trans ((put_ne (by omega)).trans ((put_ne (by omega)).trans ((put_ne (by omega)).trans ((put_ne (by omega)).trans h.e5))))) (by kernel_rfl) V) hS ?_
  refine dg_val 6 29 (v := .pointer (some ⟨q5, 0 + 0 + 1, none⟩)) rfl (by kernel_rfl) hpn (wan_yes rfl ((put_ne (by omega)).trans (put_eq (by rw [put_sz, put_sz, put_sz, put_sz]; omega))) (by rw [put_sz, put_sz, put_sz, put_sz, put_sz, put_sz]; omega)) (fun V hV => ex_field (put_eq (by rw [put_sz, put_sz, put_sz, put_sz, put_sz]; omega)) (by kernel_rfl) V) hS ?_
  refine dg_val 7 30 (v := .pointer (some ⟨q5, 0 + 0 + 1 + 0, none⟩)) rfl (by kernel_rfl) hpn (wan_yes rfl ((put_ne (by omega)).trans ((put_ne (by omega)).trans (put_eq (by rw [put_sz, put_sz, put_sz, put_sz]; omega)))) (by rw [put_sz, put_sz, put_sz, put_sz, put_sz, put_sz, put_sz]; omega)) (fun V hV => ex_field (put_eq (by rw [put_sz, put_sz, put_sz, put_sz, put_sz, put_sz]; omega)) (by kernel_rfl) V) hS ?_
  refine dg_val 8 31 (v := .int .i64 te) rfl (by kernel_rfl) hpn (wan_yes rfl ((put_ne (by omega)).trans ((put_ne (by omega)).trans ((put_ne (by omega)).trans (put_eq (by rw [put_sz, put_sz, put_sz, put_sz]; omega))))) (by rw [put_sz, put_sz, put_sz, put_sz, put_sz, put_sz, put_sz, put_sz]; omega)) (fun V hV => ex_load (put_eq (by rw [put_sz, put_sz, put_sz, put_sz, put_sz, put_sz, put_sz]; omega)) ⟨by kernel_rfl, by kernel_rfl⟩ V hV.1.c1) hS ?_
  refine dg_val 9 32 (v := .pointer (some ⟨p0, 0 + 0, none⟩)) rfl (by kernel_rfl) hpn (wan_yes rfl ((put_ne (by omega)).trans ((put_ne (by omega)).trans ((put_ne (by omega)).trans ((put_ne (by omega)).trans (put_eq (by rw [put_sz, put_sz, put_sz, put_sz]; omega)))))) (by rw [put_sz, put_sz, put_sz, put_sz, put_sz, put_sz, put_sz, put_sz, put_sz]; omega)) (fun V hV => ex_field ((put_ne (by omega)).trans ((put_ne (by omega)).trans ((put_ne (by omega)).trans ((put_ne (by omega)).trans ((put_ne (by omega)).trans ((put_ne (by omega)).trans ((put_ne (by omega)).trans ((put_ne (by omega)).trans ((put_ne (by omega)).trans h.e1))))))))) (by kernel_rfl) V) hS ?_
  refine dg_val 10 33 (v := .slice (some ⟨pr, qo, none⟩) nn cc) rfl (by kernel_rfl) hpn (wan_yes rfl ((put_ne (by omega)).trans ((put_ne (by omega)).trans ((put_ne (by omega)).trans ((put_ne (by omega)).trans ((put_ne (by omega)).trans (put_eq (by rw [put_sz, put_sz, put_sz, put_sz]; omega))))))) (by rw [put_sz, put_sz, put_sz, put_sz, put_sz, put_sz, put_sz, put_sz, put_sz, put_sz]; omega)) (fun V hV => ex_load (put_eq (by rw [put_sz, put_sz, put_sz, put_sz, put_sz, put_sz, put_sz, put_sz, put_sz]; omega)) ⟨by kernel_rfl, by kernel_rfl⟩ V hV.1.c0) hS ?_
  refine dg_val 11 34 (v := .int .i64 (m + 1 : Nat)) rfl (by kernel_rfl) hpn (wan_yes rfl ((put_ne (by omega)).trans ((put_ne (by omega)).trans ((put_ne (by omega)).trans ((put_ne (by omega)).trans ((put_ne (by omega)).trans ((put_ne (by omega)).trans (put_eq (by rw [put_sz, put_sz, put_sz, put_sz]; omega)))))))) (by rw [put_sz, put_sz, put_sz, put_sz, put_sz, put_sz, put_sz, put_sz, put_sz, put_sz, put_sz]; omega)) (fun V hV => ex_move ((put_ne (by omega)).trans ((put_ne (by omega)).trans ((put_ne (by omega)).trans ((put_ne (by omega)).trans ((put_ne (by omega)).trans ((put_ne (by omega)).trans ((put_ne (by omega)).trans ((put_ne (by omega)).trans ((put_ne (by omega)).trans ((put_ne (by omega)).trans ((put_ne (by omega)).trans h.e3))))))))))) V) hS ?_
  refine dg_val 12 35 (v := .int .i64 m) rfl (by kernel_rfl) hpn (wan_yes rfl ((put_ne (by omega)).trans ((put_ne (by omega)).trans ((put_ne (by omega)).trans ((put_ne (by omega)).trans ((put_ne (by omega)).trans ((put_ne (by omega)).trans ((put_ne (by omega)).trans (put_eq (by rw [put_sz, put_sz, put_sz, put_sz]; omega))))))))) (by rw [put_sz, put_sz, put_sz, put_sz, put_sz, put_sz, put_sz, put_sz, put_sz, put_sz, put_sz, put_sz]; omega)) (fun V hV => ex_bin (put_eq (by rw [put_sz, put_sz, put_sz, put_sz, put_sz, put_sz, put_sz, put_sz, put_sz, put_sz, put_sz]; omega)) rfl V ((run_sub V (by omega) (by omega)).trans (by congr 2; omega))) hS ?_
  refine dg_val 13 36 (v := .pointer (some ⟨pr, qo + m * 43, none⟩)) rfl (by kernel_rfl) hpn (wan_yes rfl ((put_ne (by omega)).trans ((put_ne (by omega)).trans ((put_ne (by omega)).trans ((put_ne (by omega)).trans ((put_ne (by omega)).trans ((put_ne (by omega)).trans ((put_ne (by omega)).trans ((put_ne (by omega)).trans (put_eq (by rw [put_sz, put_sz, put_sz, put_sz]; omega)))))))))) (by rw [put_sz, put_sz, put_sz, put_sz, put_sz, put_sz, put_sz, put_sz, put_sz, put_sz, put_sz, put_sz, put_sz]; omega)) (fun V hV => ex_index (e := 76) (i := m) (k := 43) (by kernel_rfl) (by kernel_rfl) ((put_ne (by omega)).trans ((put_ne (by omega)).trans (put_eq (by rw [put_sz, put_sz, put_sz, put_sz, put_sz, put_sz, put_sz, put_sz, put_sz, put_sz]; omega)))) (put_eq (by rw [put_sz, put_sz, put_sz, put_sz, put_sz, put_sz, put_sz, put_sz, put_sz, put_sz, put_sz, put_sz]; omega)) hm V) hS ?_
  refine dg_val 14 37 (v := .pointer (some ⟨pr, qo + m * 43 + 0, none⟩)) rfl (by kernel_rfl) hpn (wan_yes rfl ((put_ne (by omega)).trans ((put_ne (by omega)).trans ((put_ne (by omega)).trans ((put_ne (by omega)).trans ((put_ne (by omega)).trans ((put_ne (by omega)).trans ((put_ne (by omega)).trans ((put_ne (by omega)).trans ((put_ne (by omega)).trans (put_eq (by rw [put_sz, put_sz, put_sz, put_sz]; omega))))))))))) (by rw [put_sz, put_sz, put_sz, put_sz, put_sz, put_sz, put_sz, put_sz, put_sz, put_sz, put_sz, put_sz, put_sz, put_sz]; omega)) (fun V hV => ex_field (put_eq (by rw [put_sz, put_sz, put_sz, put_sz, put_sz, put_sz, put_sz, put_sz, put_sz, put_sz, put_sz, put_sz, put_sz]; omega)) (by kernel_rfl) V) hS ?_
  refine dg_val 15 38 (v := .pointer (some ⟨pr, qo + m * 43 + 0 + 1, none⟩)) rfl (by kernel_rfl) hpn (wan_yes rfl ((put_ne (by omega)).trans ((put_ne (by omega)).trans ((put_ne (by omega)).trans ((put_ne (by omega)).trans ((put_ne (by omega)).trans ((put_ne (by omega)).trans ((put_ne (by omega)).trans ((put_ne (by omega)).trans ((put_ne (by omega)).trans ((put_ne (by omega)).trans (put_eq (by rw [put_sz, put_sz, put_sz, put_sz]; omega)))))))))))) (by rw [put_sz, put_sz, put_sz, put_sz, put_sz, put_sz, put_sz, put_sz, put_sz, put_sz, put_sz, put_sz, put_sz, put_sz, put_sz]; omega)) (fun V hV => ex_field (put_eq (by rw [put_sz, put_sz, put_sz, put_sz, put_sz, put_sz, put_sz, put_sz, put_sz, put_sz, put_sz, put_sz, put_sz, put_sz]; omega)) (by kernel_rfl) V) hS ?_
  refine dg_val 16 39 (v := .pointer (some ⟨pr, qo + m * 43 + 0 + 1 + 0, none⟩)) rfl (by kernel_rfl) hpn (wan_yes rfl ((put_ne (by omega)).trans ((put_ne (by omega)).trans ((put_ne (by omega)).trans ((put_ne (by omega)).trans ((put_ne (by omega)).trans ((put_ne (by omega)).trans ((put_ne (by omega)).trans ((put_ne (by omega)).trans ((put_ne (by omega)).trans ((put_ne (by omega)).trans ((put_ne (by omega)).trans (put_eq (by rw [put_sz, put_sz, put_sz, put_sz]; omega))))))))))))) (by rw [put_sz, put_sz, put_sz, put_sz, put_sz, put_sz, put_sz, put_sz, put_sz, put_sz, put_sz, put_sz, put_sz, put_sz, put_sz, put_sz]; omega)) (fun V hV => ex_field (put_eq (by rw [put_sz, put_sz, put_sz, put_sz, put_sz, put_sz, put_sz, put_sz, put_sz, put_sz, put_sz, put_sz, put_sz, put_sz, put_sz]; omega)) (by kernel_rfl) V) hS ?_
  refine dg_val 17 40 (v := .int .i64 tm) rfl (by kernel_rfl) hpn (wan_yes rfl ((put_ne (by omega)).trans ((put_ne (by omega)).trans ((put_ne (by omega)).trans ((put_ne (by omega)).trans ((put_ne (by omega)).trans ((put_ne (by omega)).trans ((put_ne (by omega)).trans ((put_ne (by omega)).trans ((put_ne (by omega)).trans ((put_ne (by omega)).trans ((put_ne (by omega)).trans ((put_ne (by omega)).trans (put_eq (by rw [put_sz, put_sz, put_sz, put_sz]; omega)))))))))))))) (by rw [put_sz, put_sz, put_sz, put_sz, put_sz, put_sz, put_sz, put_sz, put_sz, put_sz, put_sz, put_sz, put_sz, put_sz, put_sz, put_sz, put_sz]; omega)) (fun V hV => ex_load (put_eq (by rw [put_sz, put_sz, put_sz, put_sz, put_sz, put_sz, put_sz, put_sz, put_sz, put_sz, put_sz, put_sz, put_sz, put_sz, put_sz, put_sz]; omega)) ⟨by kernel_rfl, by kernel_rfl⟩ V hV.2) hS ?_
  refine dg_val 18 41 (v := .bool (decide (te > tm))) rfl (by kernel_rfl) hpn (wan_yes rfl ((put_ne (by omega)).trans ((put_ne (by omega)).trans ((put_ne (by omega)).trans ((put_ne (by omega)).trans ((put_ne (by omega)).trans ((put_ne (by omega)).trans ((put_ne (by omega)).trans ((put_ne (by omega)).trans ((put_ne (by omega)).trans ((put_ne (by omega)).trans ((put_ne (by omega)).trans ((put_ne (by omega)).trans ((put_ne (by omega)).trans (put_eq (by rw [put_sz, put_sz, put_sz, put_sz]; omega))))))))))))))) (by rw [put_sz, put_sz, put_sz, put_sz, put_sz, put_sz, put_sz, put_sz, put_sz, put_sz, put_sz, put_sz, put_sz, put_sz, put_sz, put_sz, put_sz, put_sz]; omega)) (fun V hV => ex_bin ((put_ne (by omega)).trans ((put_ne (by omega)).trans ((put_ne (by omega)).trans ((put_ne (by omega)).trans ((put_ne (by omega)).trans ((put_ne (by omega)).trans ((put_ne (by omega)).trans ((put_ne (by omega)).trans ((put_ne (by omega)).trans (put_eq (by rw [put_sz, put_sz, put_sz, put_sz, put_sz, put_sz, put_sz, put_sz]; omega))))))))))) (put_eq (by rw [put_sz, put_sz, put_sz, put_sz, put_sz, put_sz, put_sz, put_sz, put_sz, put_sz, put_sz, put_sz, put_sz, put_sz, put_sz, put_sz, put_sz]; omega)) V (run_gtr V)) hS ?_
  refine dg_val 19 42 (v := .bool (decide (te > tm))) rfl (by kernel_rfl) hpn (wan_yes rfl ((put_ne (by omega)).trans ((put_ne (by omega)).trans ((put_ne (by omega)).trans ((put_ne (by omega)).trans ((put_ne (by omega)).trans ((put_ne (by omega)).trans ((put_ne (by omega)).trans ((put_ne (by omega)).trans ((put_ne (by omega)).trans ((put_ne (by omega)).trans ((put_ne (by omega)).trans ((put_ne (by omega)).trans ((put_ne (by omega)).trans ((put_ne (by omega)).trans ((put_ne (by omega)).trans ((put_ne (by omega)).trans ((put_ne (by omega)).trans (put_eq (by rw [put_sz]; omega))))))))))))))))))) (by rw [put_sz, put_sz, put_sz, put_sz, put_sz, put_sz, put_sz, put_sz, put_sz, put_sz, put_sz, put_sz, put_sz, put_sz, put_sz, put_sz, put_sz, put_sz, put_sz]; omega)) (fun V hV => ex_pickF ((put_ne (by omega)).trans ((put_ne (by omega)).trans ((put_ne (by omega)).trans ((put_ne (by omega)).trans ((put_ne (by omega)).trans ((put_ne (by omega)).trans ((put_ne (by omega)).trans ((put_ne (by omega)).trans ((put_ne (by omega)).trans ((put_ne (by omega)).trans ((put_ne (by omega)).trans ((put_ne (by omega)).trans ((put_ne (by omega)).trans ((put_ne (by omega)).trans (put_eq (by rw [put_sz, put_sz, put_sz, put_sz]; omega)))))))))))))))) (put_eq (by rw [put_sz, put_sz, put_sz, put_sz, put_sz, put_sz, put_sz, put_sz, put_sz, put_sz, put_sz, put_sz, put_sz, put_sz, put_sz, put_sz, put_sz, put_sz]; omega)) V) hS ?_
  refine dg_val 20 43 (v := .bool (decide (te > tm))) rfl (by kernel_rfl) hpn rfl (fun V hV => ex_pickT ((put_ne (by omega)).trans ((put_ne (by omega)).trans ((put_ne (by omega)).trans ((put_ne (by omega)).trans ((put_ne (by omega)).trans ((put_ne (by omega)).trans ((put_ne (by omega)).trans ((put_ne (by omega)).trans ((put_ne (by omega)).trans ((put_ne (by omega)).trans ((put_ne (by omega)).trans ((put_ne (by omega)).trans ((put_ne (by omega)).trans ((put_ne (by omega)).trans ((put_ne (by omega)).trans ((put_ne (by omega)).trans ((put_ne (by omega)).trans ((put_ne (by omega)).trans (put_eq (by rw [put_sz]; omega)))))))))))))))))))) (put_eq (by rw [put_sz, put_sz, put_sz, put_sz, put_sz, put_sz, put_sz, put_sz, put_sz, put_sz, put_sz, put_sz, put_sz, put_sz, put_sz, put_sz, put_sz, put_sz, put_sz]; omega)) V) hS ?_
  exact ⟨by kernel_rfl, k _ ⟨put_sz.trans (put_sz.trans (put_sz.trans (put_sz.trans (put_sz.trans (put_sz.trans (put_sz.trans (put_sz.trans (put_sz.trans (put_sz.trans (put_sz.trans (put_sz.trans (put_sz.trans (put_sz.trans (put_sz.trans (put_sz.trans (put_sz.trans (put_sz.trans (put_sz.trans (put_sz.trans (put_sz.trans (hz))))))))))))))))))))), put_df.trans (put_df.trans (put_df.trans (put_df.trans (put_df.trans (put_df.trans (put_df.trans (put_df.trans (put_df.trans (put_df.trans (put_df.trans (put_df.trans (put_df.trans (put_df.trans (put_df.trans (put_df.trans (put_df.trans (put_df.trans (put_df.trans (put_df.trans (put_df.trans (hd))))))))))))))))))))), ((put_ne (by omega)).trans ((put_ne (by omega)).trans ((put_ne (by omega)).trans ((put_ne (by omega)).trans ((put_ne (by omega)).trans ((put_ne (by omega)).trans ((put_ne (by omega)).trans ((put_ne (by omega)).trans ((put_ne (by omega)).trans ((put_ne (by omega)).trans ((put_ne (by omega)).trans ((put_ne (by omega)).trans ((put_ne (by omega)).trans ((put_ne (by omega)).trans ((put_ne (by omega)).trans ((put_ne (by omega)).trans ((put_ne (by omega)).trans ((put_ne (by omega)).trans ((put_ne (by omega)).trans ((put_ne (by omega)).trans ((put_ne (by omega)).trans h.e1))))))))))))))))))))), ((put_ne (by omega)).trans ((put_ne (by omega)).trans ((put_ne (by omega)).trans ((put_ne (by omega)).trans ((put_ne (by omega)).trans ((put_ne (by omega)).trans ((put_ne (by omega)).trans ((put_ne (by omega)).trans ((put_ne (by omega)).trans ((put_ne (by omega)).trans ((put_ne (by omega)).trans ((put_ne (by omega)).trans ((put_ne (by omega)).trans ((put_ne (by omega)).trans ((put_ne (by omega)).trans ((put_ne (by omega)).trans ((put_ne (by omega)).trans ((put_ne (by omega)).trans ((put_ne (by omega)).trans ((put_ne (by omega)).trans ((put_ne (by omega)).trans h.e3))))))))))))))))))))), ((put_ne (by omega)).trans ((put_ne (by omega)).trans ((put_ne (by omega)).trans ((put_ne (by omega)).trans ((put_ne (by omega)).trans ((put_ne (by omega)).trans ((put_ne (by omega)).trans ((put_ne (by omega)).trans ((put_ne (by omega)).trans ((put_ne (by omega)).trans ((put_ne (by omega)).trans ((put_ne (by omega)).trans ((put_ne (by omega)).trans ((put_ne (by omega)).trans ((put_ne (by omega)).trans ((put_ne (by omega)).trans ((put_ne (by omega)).trans ((put_ne (by omega)).trans ((put_ne (by omega)).trans ((put_ne (by omega)).trans ((put_ne (by omega)).trans h.e4))))))))))))))))))))), ((put_ne (by omega)).trans ((put_ne (by omega)).trans ((put_ne (by omega)).trans ((put_ne (by omega)).trans ((put_ne (by omega)).trans ((put_ne (by omega)).trans ((put_ne (by omega)).trans ((put_ne (by omega)).trans ((put_ne (by omega)).trans ((put_ne (by omega)).trans ((put_ne (by omega)).trans ((put_ne (by omega)).trans ((put_ne (by omega)).trans ((put_ne (by omega)).trans ((put_ne (by omega)).trans ((put_ne (by omega)).trans ((put_ne (by omega)).trans ((put_ne (by omega)).trans ((put_ne (by omega)).trans ((put_ne (by omega)).trans ((put_ne (by omega)).trans h.e5))))))))))))))))))))), ((put_ne (by omega)).trans ((put_ne (by omega)).trans ((put_ne (by omega)).trans ((put_ne (by omega)).trans ((put_ne (by omega)).trans ((put_ne (by omega)).trans ((put_ne (by omega)).trans ((put_ne (by omega)).trans ((put_ne (by omega)).trans ((put_ne (by omega)).trans ((put_ne (by omega)).trans ((put_ne (by omega)).trans ((put_ne (by omega)).trans ((put_ne (by omega)).trans ((put_ne (by omega)).trans ((put_ne (by omega)).trans ((put_ne (by omega)).trans ((put_ne (by omega)).trans ((put_ne (by omega)).trans ((put_ne (by omega)).trans ((put_ne (by omega)).trans h.e8))))))))))))))))))))), ((put_ne (by omega)).trans ((put_ne (by omega)).trans ((put_ne (by omega)).trans ((put_ne (by omega)).trans ((put_ne (by omega)).trans ((put_ne (by omega)).trans ((put_ne (by omega)).trans ((put_ne (by omega)).trans ((put_ne (by omega)).trans ((put_ne (by omega)).trans ((put_ne (by omega)).trans ((put_ne (by omega)).trans ((put_ne (by omega)).trans ((put_ne (by omega)).trans ((put_ne (by omega)).trans ((put_ne (by omega)).trans ((put_ne (by omega)).trans ((put_ne (by omega)).trans ((put_ne (by omega)).trans ((put_ne (by omega)).trans ((put_ne (by omega)).trans h.e9))))))))))))))))))))), ((put_ne (by omega)).trans ((put_ne (by omega)).trans ((put_ne (by omega)).trans ((put_ne (by omega)).trans ((put_ne (by omega)).trans ((put_ne (by omega)).trans ((put_ne (by omega)).trans ((put_ne (by omega)).trans ((put_ne (by omega)).trans ((put_ne (by omega)).trans ((put_ne (by omega)).trans ((put_ne (by omega)).trans ((put_ne (by omega)).trans ((put_ne (by omega)).trans ((put_ne (by omega)).trans ((put_ne (by omega)).trans ((put_ne (by omega)).trans ((put_ne (by omega)).trans ((put_ne (by omega)).trans ((put_ne (by omega)).trans ((put_ne (by omega)).trans h.e10)))))))))))))))))))))⟩ (put_eq (by rw [put_sz, put_sz, put_sz, put_sz, put_sz, put_sz, put_sz, put_sz, put_sz, put_sz, put_sz, put_sz, put_sz, put_sz, put_sz, put_sz, put_sz, put_sz, put_sz, put_sz]; omega))⟩


end Go.Proofs.Ytmfbmnpfgbenmaa
