/-
  Rows of bytes as rows of things of one cell: the two ways of saying it are one.
-/
import Derived.Test.YtamaanbnlnpjcaaGRow
import Derived.Test.YtamaanbnlnpjcaaCMark
import Derived.Carry
import Derived.Deep.Slices
import Derived.Deep.RegionWith
import Derived.Deep.RegionHeld3
import Derived.ChangeMaps5
import Derived.Lib.SmallJoins
namespace Go.Proofs.Ytamaanbnlnpjcaa
open Go.ChangeShapes Go.WideShapes Go.ChangeAt Go.RowKit Go.Joins Go.Deep

theorem alloc_below (w : World) (o : Obj) : Below w.heap.size w (w.alloc o) := (Below.refl _ _).alloc (Nat.le_refl _) o
theorem alloc_lt (w : World) (o : Obj) : w.heap.size < (w.alloc o).heap.size := by simp
theorem ret_i {a b : Int} (h : a = b) : Ending.returned (.int .i64 a) = .returned (.int .i64 b) := by rw [h]
/-- A byte, one cell. -/
def KBy : Kd Int := ⟨1, fun z => [.int .u8 z], fun _ => rfl, fun x u h => by simp at h; subst h; rfl⟩
theorem Try.tyBy : GTy KBy (.int .u8 0) 1 Try.prog 22 5 := ⟨Try.underlying22, by kernel_rfl, rfl, by omega⟩
theorem gflat_by : ∀ zs : List Int, gflat KBy zs = zs.map (Value.int .u8)
  | [] => rfl
  | z :: t => by show [Value.int .u8 z] ++ gflat KBy t = _; rw [gflat_by t]; rfl
theorem own_by {w : World} {B : Nat} {v : Value} {zs : List Int} : OwnG KBy 5 w B v zs ↔ Own w B v zs := by
  unfold OwnG Own; rw [gflat_by]; exact Iff.rfl
theorem row_by {w : World} {a : Option Addr} {zs : List Int} : RowG KBy w a zs ↔ Byt w a zs := by
  constructor
  · intro h j hj
    obtain ⟨p, o, q, ha, hp, hq, c⟩ := h j hj
    have := c 0 _ rfl
    exact ⟨p, o, q, ha, hp, by simpa [KBy] using this, hq⟩
  · intro h j hj
    obtain ⟨p, o, z, ha, hp, hc, hz⟩ := h j hj
    refine ⟨p, o, z, ha, hp, hz, fun i v hv => ?_⟩
    match i, hv with
    | 0, hv => simp [KBy] at hv; subst hv; simpa [KBy] using hc
    | i + 1, hv => simp [KBy] at hv
/-- The marks of the j-th byte. -/
def mkBy (k : Int) (j : Nat) : Int := IntKind.u8.wrap (k + (j : Int))
theorem mks_by (k : Int) (n : Nat) : mks k n = mksG (mkBy k) n := rfl

theorem toByteG (a : Option Addr) (n cap : Nat) (zs : List Int) (w : World) (hn : n = zs.length) (hB : RowG KBy w a zs) (hl : n ≤ 1048576) :
    Calls Try.prog 51 #[.slice a n cap] w fun e w' => ∃ g, e = .returned (.slice (some ⟨g, 0, none⟩) n n) ∧ OwnG KBy 5 w' w.heap.size (.slice (some ⟨g, 0, none⟩) n n) zs ∧ Below w.heap.size w w' := by
  subst hn
  exact (toByteS_any a cap zs w (row_by.1 hB) hl).mono fun _ _ h => ⟨w.heap.size, h.1, own_by.2 h.2.1, h.2.2⟩
theorem eqByteG (a a' : Option Addr) (n c c' : Nat) (zs : List Int) (w : World) (hn : n = zs.length) (hB : RowG KBy w a zs) (hB' : RowG KBy w a' zs) (hl : n ≤ 9000000000) :
    Calls Try.prog 53 #[.slice a n c, .slice a' n c'] w fun e w' => e = .returned (.bool true) ∧ Below w.heap.size w w' := by
  subst hn
  have := eqByteS_any a a' c c' zs zs w (row_by.1 hB) (row_by.1 hB') hl hl
  rw [eqL_same] at this
  exact this
theorem markByteG (a : Option Addr) (n cap B : Nat) (zs : List Int) (k : Int) (w : World) (hn : n = zs.length) (h : OwnG KBy 5 w B (.slice a n cap) zs) (hl : n ≤ 9000000) (k0 : 0 < k) (k1 : k ≤ 9000000000) :
    Calls Try.prog 59 #[.slice a n cap, .int .i64 k] w fun e w' => e = .returned (.int .i64 (k + n)) ∧ OwnG KBy 5 w' B (.slice a n cap) (mksG (mkBy k) n) ∧ w.grownBy w' (Value.slice a n cap).ownBlock := by
  subst hn
  exact (markByteS_any a cap B zs k w (own_by.1 h) (by omega) (by omega) k1).mono fun _ _ h => ⟨h.1, by rw [← mks_by]; exact own_by.2 h.2.1, h.2.2⟩
theorem heldByteG (a : Option Addr) (cap n : Nat) (k : Int) (w : World) (h : RowG KBy w a (mksG (mkBy k) n)) (hl : n ≤ 9000000) (k0 : 0 < k) (k1 : k ≤ 9000000000) :
    Calls Try.prog 93 #[.slice a n cap, .int .i64 k] w fun e w' => e = .returned (.int .i64 (k + n)) ∧ Below w.heap.size w w' :=
  heldByteS_any a cap n k w (by rw [mks_by]; exact row_by.1 h) (by omega) (by omega) k1

end Go.Proofs.Ytamaanbnlnpjcaa
