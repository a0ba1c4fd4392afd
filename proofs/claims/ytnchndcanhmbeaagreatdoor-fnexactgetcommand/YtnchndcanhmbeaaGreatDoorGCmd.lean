/-
  A command in its box; what is taken out of it leaves zero behind. Nothing below the box turns.
-/
import Derived.Test.YtnchndcanhmbeaaGreatDoorBPt
import Derived.Test.YtnchndcanhmbeaaGreatDoorOOwn
import Derived.Test.YtnchndcanhmbeaaGreatDoorGRow
import Derived.Test.YtnchndcanhmbeaaGreatDoorWBelow
import Derived.Deep.RegionWith
namespace Go.Proofs.YtnchndcanhmbeaaGreatDoor
open Go.RowKit

/-- A box of one's own and what it holds. -/
structure Bx (x : World) (p : Nat) (vs : List Value) : Prop where
  cel : ∀ i v, vs[i]? = some v → x.cell? ⟨p, i, none⟩ = some v
  frz : ∀ o, x.frozen? ⟨p, o, none⟩ = false
  lt : p < x.heap.size
theorem Bx.set {x : World} {p : Nat} {vs : List Value} (h : Bx x p vs) (i : Nat) (u v : Value) (hu : vs[i]? = some u) : Bx (x.setCell ⟨p, i, none⟩ v) p (vs.set i v) := by
  refine ⟨fun j y hy => ?_, fun o => by simp [go_sem, h.frz], by simpa using h.lt⟩
  by_cases e : j = i
  · subst e
    have c := h.cel j u hu
    rw [List.getElem?_set_self (by rcases Nat.lt_or_ge j vs.length with h' | h'; exact h'; rw [List.getElem?_eq_none h'] at hu; cases hu)] at hy
    cases hy
    simp [go_sem, c]
  · rw [List.getElem?_set_ne (fun q => e q.symm)] at hy
    have c := h.cel j y hy
    simp [go_sem, c]
theorem Bx.below {x y : World} {p B : Nat} {vs : List Value} (h : Bx x p vs) (k : Below B x y) (hB : p < B) : Bx y p vs :=
  ⟨fun i v hv => (k.cell (p := ⟨p, i, none⟩) hB).trans (h.cel i v hv), fun o => (k.frozen (p := ⟨p, o, none⟩) hB).trans (h.frz o), Nat.lt_of_lt_of_le h.lt k.size⟩
theorem Bx.later {x y : World} {p : Nat} {vs : List Value} (h : Bx x p vs) (k : Below x.heap.size x y) : Bx y p vs := h.below k h.lt
theorem Bx.alloc {x : World} {p : Nat} {vs : List Value} (h : Bx x p vs) (o : Obj) : Bx (x.alloc o) p vs := h.later ((Below.refl _ x).alloc (Nat.le_refl _) o)
theorem Bx.drew {x : World} {p : Nat} {vs : List Value} (h : Bx x p vs) : Bx x.drew p vs := h.later (Below.refl _ x).drew
theorem Bx.far {x : World} {p : Nat} {vs : List Value} (h : Bx x p vs) {b i : Nat} (hb : b ≠ p) (v : Value) : Bx (x.setCell ⟨b, i, none⟩ v) p vs :=
  have hb' := hb.symm
  ⟨fun j y hy => by have c := h.cel j y hy; simp [go_sem, c], fun o => by simp [go_sem, h.frz], by simpa using h.lt⟩
theorem Bx.new (x : World) (vs : List Value) (t : TypeId) : Bx (x.alloc (.cells vs.toArray t)) x.heap.size vs :=
  ⟨fun i v hv => by simp [go_sem, hv], fun o => by simp [go_sem], by simp⟩

set_option maxHeartbeats 400000 in
theorem takeI (p i : Nat) (vs : List Value) (z : Int) (x : World) (h : Bx x p vs) (hz : vs[i]? = some (.int .i64 z)) :
    Calls Tryz.prog 68 #[.pointer (some ⟨p, i, none⟩)] x fun e w' => e = .returned (.int .i64 z) ∧ Bx w' p (vs.set i (.int .i64 0)) ∧ Kp p x w' := by
  have HR := hidP (h.set i _ (.int .i64 0) hz)
  have c := h.cel i _ hz
  have f := h.frz i
  clear h hz
  go_enter Tryz.func68, Tryz.ntmps68
  go_wp2
  go_ret
  exact ⟨rfl, HR.out, Kp.set p x i _⟩
set_option maxHeartbeats 400000 in
theorem takeS (p i : Nat) (vs : List Value) (z : ByteArray) (x : World) (h : Bx x p vs) (hz : vs[i]? = some (.string z)) :
    Calls Tryz.prog 71 #[.pointer (some ⟨p, i, none⟩)] x fun e w' => e = .returned (.string z) ∧ Bx w' p (vs.set i (.string ⟨#[]⟩)) ∧ Kp p x w' := by
  have HR := hidP (h.set i _ (.string ⟨#[]⟩) hz)
  have c := h.cel i _ hz
  have f := h.frz i
  clear h hz
  go_enter Tryz.func71, Tryz.ntmps71
  go_wp2
  go_ret
  exact ⟨rfl, HR.out, Kp.set p x i _⟩
set_option maxHeartbeats 1000000 in
theorem takeA (p i : Nat) (vs : List Value) (s : Bool) (h l : Int) (x : World) (hx : Bx x p vs) (h0 : vs[i]? = some (.bool s)) (h1 : vs[i + 1]? = some (.int .i64 h)) (h2 : vs[i + 2]? = some (.int .i64 l)) :
    Calls Tryz.prog 72 #[.pointer (some ⟨p, i, none⟩)] x fun e w' => e = .returned (.agg #[.bool s, .int .i64 h, .int .i64 l]) ∧ Bx w' p (((vs.set i (.bool false)).set (i + 1) (.int .i64 0)).set (i + 2) (.int .i64 0)) ∧ Kp p x w' := by
  have hL := hx.lt
  have hL1 : p < x.heap.size + 1 := by omega
  have hL2 : p < x.heap.size + 1 + 1 := by omega
  have c0 := hx.cel i _ h0
  have c1 := hx.cel (i + 1) _ h1
  have c2 := hx.cel (i + 2) _ h2
  have f := hx.frz
  have HX := hidP hx
  have H0 := hidP h0
  have H1 := hidP h1
  have H2 := hidP h2
  clear h0 h1 h2 hx
  go_enter Tryz.func72, Tryz.ntmps72
  go_wp2
  refine bodyPost_ret (v := .agg #[.bool s, .int .i64 h, .int .i64 l]) (by simp [results, Tryz.results72, go_sem]) rfl ⟨rfl, ?_, ?_⟩
  · exact (((((HX.out.set i _ _ H0.out).set (i + 1) _ _ (by rw [List.getElem?_set_ne (by omega)]; exact H1.out)).set (i + 2) _ _ (by rw [List.getElem?_set_ne (by omega), List.getElem?_set_ne (by omega)]; exact H2.out)).alloc _).alloc _).alloc _
  · exact (((((Kp.set p x _ _).trans (Kp.set p _ _ _)).trans (Kp.set p _ _ _)).more hL _).more hL _).more hL _
set_option maxHeartbeats 1000000 in
theorem takeP (p i : Nat) (vs : List Value) (s : Bool) (h l b : Int) (x : World) (hx : Bx x p vs) (h0 : vs[i]? = some (.bool s)) (h1 : vs[i + 1]? = some (.int .i64 h)) (h2 : vs[i + 2]? = some (.int .i64 l)) (h3 : vs[i + 3]? = some (.int .i64 b)) :
    Calls Tryz.prog 70 #[.pointer (some ⟨p, i, none⟩)] x fun e w' => e = .returned (.agg #[.bool s, .int .i64 h, .int .i64 l, .int .i64 b]) ∧ Bx w' p ((((vs.set i (.bool false)).set (i + 1) (.int .i64 0)).set (i + 2) (.int .i64 0)).set (i + 3) (.int .i64 0)) ∧ Kp p x w' := by
  have hL := hx.lt
  have hL1 : p < x.heap.size + 1 := by omega
  have hL2 : p < x.heap.size + 1 + 1 := by omega
  have c0 := hx.cel i _ h0
  have c1 := hx.cel (i + 1) _ h1
  have c2 := hx.cel (i + 2) _ h2
  have c3 := hx.cel (i + 3) _ h3
  have f := hx.frz
  have HX := hidP hx
  have H0 := hidP h0
  have H1 := hidP h1
  have H2 := hidP h2
  have H3 := hidP h3
  clear h0 h1 h2 h3 hx
  go_enter Tryz.func70, Tryz.ntmps70
  go_wp2
  refine bodyPost_ret (v := .agg #[.bool s, .int .i64 h, .int .i64 l, .int .i64 b]) (by simp [results, Tryz.results70, go_sem]) rfl ⟨rfl, ?_, ?_⟩
  · exact ((((((HX.out.set i _ _ H0.out).set (i + 1) _ _ (by rw [List.getElem?_set_ne (by omega)]; exact H1.out)).set (i + 2) _ _ (by rw [List.getElem?_set_ne (by omega), List.getElem?_set_ne (by omega)]; exact H2.out)).set (i + 3) _ _ (by rw [List.getElem?_set_ne (by omega), List.getElem?_set_ne (by omega), List.getElem?_set_ne (by omega)]; exact H3.out)).alloc _).alloc _).alloc _
  · exact ((((((Kp.set p x _ _).trans (Kp.set p _ _ _)).trans (Kp.set p _ _ _)).trans (Kp.set p _ _ _)).more hL _).more hL _).more hL _

end Go.Proofs.YtnchndcanhmbeaaGreatDoor
