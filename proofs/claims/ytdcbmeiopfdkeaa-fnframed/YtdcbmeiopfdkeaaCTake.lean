/-
  The program's reader (a row of bytes, and a place in it, behind a pointer): its take of the next bytes, which gives up where there are too few; nothing turns but the reader's place.
-/
import Derived.Test.YtdcbmeiopfdkeaaCByt
import Derived.RegionTactic
import Derived.Deep.RegionHeld3
import Derived.Maps.AppendAt
namespace Go.Proofs.Ytdcbmeiopfdkeaa
open Go.RowKit

/-- Block R holds a reader over the bytes zs, at the place at. -/
structure Rdr (w : World) (R : Nat) (a : Option Addr) (n cap : Nat) (zs : List Int) (at' : Nat) : Prop where
  row : w.cell? ⟨R, 0, none⟩ = some (.slice a n cap)
  idx : w.cell? ⟨R, 1, none⟩ = some (.int .i64 at')
  frz : w.frozen? ⟨R, 1, none⟩ = false
  le : at' ≤ n
  len : zs.length = n
  ncap : n ≤ cap
  few : n ≤ 1000000000000 ∧ cap ≤ 9223372036854775807
  byt : ∀ j, j < n → ∃ p o z, a = some ⟨p, o, none⟩ ∧ p < R ∧ w.cell? ⟨p, o + j, none⟩ = some (.int .u8 z) ∧ zs[j]? = some z

theorem Rdr.lt {w : World} {R : Nat} {a : Option Addr} {n cap at' : Nat} {zs : List Int} (h : Rdr w R a n cap zs at') : R < w.heap.size := World.block_lt_of_cell? w _ h.row
theorem Rdr.drew {w : World} {R : Nat} {a : Option Addr} {n cap at' : Nat} {zs : List Int} (h : Rdr w R a n cap zs at') : Rdr w.drew R a n cap zs at' :=
  ⟨h.row, h.idx, h.frz, h.le, h.len, h.ncap, h.few, h.byt⟩
theorem Rdr.set {w : World} {R : Nat} {a : Option Addr} {n cap at' : Nat} {zs : List Int} (h : Rdr w R a n cap zs at') (k : Nat) (hk : k ≤ n) (z : Int) (hz : z = (k : Int)) : Rdr (w.setCell ⟨R, 1, none⟩ (.int .i64 z)) R a n cap zs k := by
  subst hz
  refine ⟨?_, ?_, ?_, hk, h.len, h.ncap, h.few, fun j hj => ?_⟩
  · simp [go_sem, h.row]
  · simp [go_sem, h.idx]
  · simp [go_sem, h.frz]
  · obtain ⟨p, o, v, ha, hp, hv, hz⟩ := h.byt j hj
    exact ⟨p, o, v, ha, hp, (World.cell?_setCell_far _ _ _ _ (by show R ≠ p; omega)).trans hv, hz⟩
/-- The reader behind what only makes memory. -/
theorem Rdr.later {w w' : World} {R : Nat} {a : Option Addr} {n cap at' : Nat} {zs : List Int} (h : Rdr w R a n cap zs at') (b : Below w.heap.size w w') : Rdr w' R a n cap zs at' := by
  have hR := h.lt
  refine ⟨(b.cell (p := ⟨R, 0, none⟩) hR).trans h.row, (b.cell (p := ⟨R, 1, none⟩) hR).trans h.idx, (b.frozen (p := ⟨R, 1, none⟩) hR).trans h.frz, h.le, h.len, h.ncap, h.few, fun j hj => ?_⟩
  obtain ⟨p, o, v, ha, hp, hv, hz⟩ := h.byt j hj
  exact ⟨p, o, v, ha, hp, (b.cell (p := ⟨p, o + j, none⟩) (Nat.lt_trans hp hR)).trans hv, hz⟩
theorem gr_set' {w w' : World} {g : Nat} (h : w.grownBy w' (some g)) (j : Nat) (v : Value) : w.grownBy (w'.setCell ⟨g, j, none⟩ v) (some g) :=
  h.trans ⟨rfl, rfl, rfl, by simp, fun k _ hk => Below.heap_setCell w' ⟨g, j, none⟩ v k (fun e => hk (by rw [e]))⟩
theorem gr_drew' {w w' : World} {r : Option Nat} (h : w.grownBy w' r) : w.grownBy w'.drew r := h.trans ⟨rfl, rfl, rfl, Nat.le_refl _, fun _ _ _ => rfl⟩
theorem gr_below {w w' X : World} {R : Nat} (h : w.grownBy w' (some R)) (b : Below w'.heap.size w' X) : w.grownBy X (some R) :=
  h.trans ⟨b.os, b.tape, b.output, b.size, fun k hk _ => b.block k hk⟩

/-- The c bytes from the place at on lie from a' on, below block R. -/
def Cut (w : World) (R : Nat) (a' : Option Addr) (c : Nat) (zs : List Int) (at' : Nat) : Prop := ∀ j, j < c → ∃ p o z, a' = some ⟨p, o, none⟩ ∧ p < R ∧ w.cell? ⟨p, o + j, none⟩ = some (.int .u8 z) ∧ zs[at' + j]? = some z
theorem Rdr.cut {w : World} {R : Nat} {a : Option Addr} {n cap at' : Nat} {zs : List Int} (h : Rdr w R a n cap zs at') (k c : Nat) (hk : k + c ≤ n) : Cut w R (a.map fun x => x.add k) c zs k := fun j hj => by
  obtain ⟨p, o, z, ha, hp, hv, hz⟩ := h.byt (k + j) (by omega)
  subst ha
  refine ⟨p, o + k, z, ?_, hp, by rw [Nat.add_assoc]; exact hv, hz⟩
  simp [Addr.add_lit]

set_option maxHeartbeats 2000000 in
theorem take_torn (R : Nat) (a : Option Addr) (n cap at' : Nat) (zs : List Int) (c : Nat) (w : World) (h : Rdr w R a n cap zs at') (hc : c ≤ 9223372036854775807) (hlt : n < at' + c) :
    Calls Try.prog 57 #[.pointer (some ⟨R, 0, none⟩), .int .i64 c] w fun e w' => e = .panicked [{ v := .iface 80 (.int .i64 2), recovered := false }] ∧ w.grownBy w' (some R) := by
  have c0 := h.row
  have c1 := h.idx
  have hle := h.le
  have hnc := h.ncap
  obtain ⟨hfe, hfe2⟩ := h.few
  have d1 : decide ((n : Int) - (at' : Int) < (c : Int)) = true := decide_eq_true (by omega)
  clear h
  go_enter Try.func57, Try.ntmps57
  go_wp2_with fail
  go_region
  all_goals
    go_wp2_with fail
    exact ⟨rfl, rfl, gr_drew' (World.grownBy.refl _ _)⟩

set_option maxHeartbeats 2000000 in
theorem take_ok2 (R : Nat) (a : Option Addr) (n cap at' : Nat) (zs : List Int) (c : Nat) (w : World) (h : Rdr w R a n cap zs at') (hle : at' + c ≤ n) :
    Calls Try.prog 57 #[.pointer (some ⟨R, 0, none⟩), .int .i64 c] w fun e w' => ∃ a' c', e = .returned (.slice a' c c') ∧ (a' = none → a = none) ∧ c ≤ c' ∧ c' ≤ cap ∧ Cut w' R a' c zs at' ∧ Rdr w' R a n cap zs (at' + c) ∧ w.grownBy w' (some R) := by
  have c0 := h.row
  have c1 := h.idx
  have f1 := h.frz
  have hnc := h.ncap
  obtain ⟨hfe, hfe2⟩ := h.few
  have HR := hid' h
  have d1 : decide ((n : Int) - (at' : Int) < (c : Int)) = false := decide_eq_false (by omega)
  have HLE := hid' hle
  clear h
  go_enter Try.func57, Try.ntmps57
  go_wp2_with fail
  go_region
  all_goals
    go_wp2_with fail
  all_goals
    go_region
  all_goals
    go_wp2_with fail
  · refine bodyPost_ret (v := .slice a c 0) (by simp [results, Try.results57, go_sem]) rfl ?_
    have e0 : c = 0 := by omega
    subst e0
    refine ⟨a, 0, rfl, fun h => h, Nat.le_refl _, Nat.zero_le _, fun j hj => absurd hj (Nat.not_lt_zero j), ?_, gr_drew' (gr_drew' (gr_set' (World.grownBy.refl _ _) _ _))⟩
    have q := HR.out.set (at' + 0) (by omega) ((at' : Int) + (0 : Nat)) (by omega)
    have ec : cap = at' := by omega
    rw [ec] at q
    exact q.drew.drew
  · refine bodyPost_ret (v := .slice (a.map fun x => x.add at') c (cap - at')) (by simp [results, Try.results57, go_sem]) rfl ?_
    have HR2 := (HR.out.set (at' + c) (by omega) ((at' : Int) + c) (by omega)).drew.drew
    exact ⟨_, _, rfl, fun h => by cases a with | none => rfl | some _ => simp at h, by have := HR.out.ncap; have := HLE.out; omega, Nat.sub_le _ _, HR2.cut at' c HLE.out, HR2, gr_drew' (gr_drew' (gr_set' (World.grownBy.refl _ _) _ _))⟩

theorem take_ok (R : Nat) (a : Option Addr) (n cap at' : Nat) (zs : List Int) (c : Nat) (w : World) (h : Rdr w R a n cap zs at') (hle : at' + c ≤ n) :
    Calls Try.prog 57 #[.pointer (some ⟨R, 0, none⟩), .int .i64 c] w fun e w' => ∃ a' c', e = .returned (.slice a' c c') ∧ c ≤ c' ∧ c' ≤ cap ∧ Cut w' R a' c zs at' ∧ Rdr w' R a n cap zs (at' + c) ∧ w.grownBy w' (some R) :=
  (take_ok2 R a n cap at' zs c w h hle).mono fun _ _ ⟨a', c', h1, _, h3⟩ => ⟨a', c', h1, h3⟩

end Go.Proofs.Ytdcbmeiopfdkeaa
