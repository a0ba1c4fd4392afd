/-
  The laws' copy of a row of prefixes: a row of the call's own with the same prefixes; nothing old in memory turns.
-/
import Derived.Test.YtgohffeneibhdaaPRow
import Derived.Test.YtgohffeneibhdaaBTo
namespace Go.Proofs.Ytgohffeneibhdaa
open Go.RowKit

theorem Try.fourP : Four Try.prog 24 31 := ⟨Try.underlying24, by kernel_rfl⟩

def Pf.zero : Pf := ⟨false, 0, 0, 0⟩

theorem made_four : ∀ n : Nat, (madeCells (Value.agg #[.bool false, .int .i64 0, .int .i64 0, .int .i64 0]).cells (n * 4)).toList = flat (List.replicate n Pf.zero) := fun n => by
  apply List.ext_getElem?
  intro j
  by_cases hj : j < n * 4
  · have hq : (List.replicate n Pf.zero)[j / 4]? = some Pf.zero := by rw [List.getElem?_replicate, if_pos (by omega)]
    obtain ⟨f0, f1, f2, f3⟩ := flat_at _ (j / 4) _ hq
    have e : (madeCells (Value.agg #[.bool false, .int .i64 0, .int .i64 0, .int .i64 0]).cells (n * 4)).toList[j]? = some ((#[.bool false, .int .i64 0, .int .i64 0, .int .i64 0] : Array Value)[j % 4]!) := by
      rw [Array.getElem?_toList]
      unfold madeCells
      rw [Array.getElem?_map, Array.getElem?_range, if_pos hj]
      rfl
    rw [e]
    have hm : j % 4 = 0 ∧ j = j / 4 * 4 ∨ j % 4 = 1 ∧ j = j / 4 * 4 + 1 ∨ j % 4 = 2 ∧ j = j / 4 * 4 + 2 ∨ j % 4 = 3 ∧ j = j / 4 * 4 + 3 := by omega
    rcases hm with ⟨h1, h2⟩ | ⟨h1, h2⟩ | ⟨h1, h2⟩ | ⟨h1, h2⟩
    · rw [h1]; conv => rhs; rw [h2]
      rw [f0]; rfl
    · rw [h1]; conv => rhs; rw [h2]
      rw [f1]; rfl
    · rw [h1]; conv => rhs; rw [h2]
      rw [f2]; rfl
    · rw [h1]; conv => rhs; rw [h2]
      rw [f3]; rfl
  · rw [List.getElem?_eq_none (by rw [Array.length_toList, size_madeCells]; omega), List.getElem?_eq_none (by rw [flat_len, List.length_replicate]; omega)]

/-- One more of the row is copied. -/
theorem copy_step (ps : List Pf) (k : Nat) (q : Pf) (hk : k < ps.length) (hq : ps[k]? = some q) : (ps.take k ++ List.replicate (ps.length - k) Pf.zero).set k q = ps.take (k + 1) ++ List.replicate (ps.length - (k + 1)) Pf.zero := by
  have e : ps.length - k = ps.length - (k + 1) + 1 := by omega
  rw [e, List.replicate_succ, List.set_append_right _ _ (by rw [List.length_take]; omega)]
  have e2 : k - (ps.take k).length = 0 := by rw [List.length_take]; omega
  rw [e2, List.set_cons_zero, List.take_add_one, hq]
  simp

theorem flat_set : ∀ (ps : List Pf) (j : Nat) (q : Pf), j < ps.length → ((((flat ps).set (j * 4) (.bool q.s)).set (j * 4 + 1) (.int .i64 q.H.toInt)).set (j * 4 + 2) (.int .i64 q.L.toInt)).set (j * 4 + 3) (.int .i64 q.b) = flat (ps.set j q)
  | [], j, q, h => by simp at h
  | p :: t, 0, q, h => by simp [flat, Pf.cs]
  | p :: t, j + 1, q, h => by
      have ih := flat_set t j q (by simpa using h)
      have e : ∀ (i : Nat) (l : List Value) (v : Value), (p.cs ++ l).set ((j + 1) * 4 + i) v = p.cs ++ l.set (j * 4 + i) v := fun i l v => by
        rw [List.set_append_right _ _ (by simp [Pf.cs]; omega)]
        congr 2
        simp [Pf.cs]; omega
      have e0 := fun (l : List Value) (v : Value) => e 0 l v
      simp only [Nat.add_zero] at e0
      show ((((p.cs ++ flat t).set ((j + 1) * 4) (.bool q.s)).set ((j + 1) * 4 + 1) (.int .i64 q.H.toInt)).set ((j + 1) * 4 + 2) (.int .i64 q.L.toInt)).set ((j + 1) * 4 + 3) (.int .i64 q.b) = p.cs ++ flat (t.set j q)
      rw [e0, e 1, e 2, e 3, ih]

/-- One of a row is written. -/
theorem OwnR.put {t : TypeId} {w : World} {B g n cap : Nat} {ps : List Pf} (h : OwnR t w B (.slice (some ⟨g, 0, none⟩) n cap) ps) (hn : n = ps.length) (j : Nat) (hj : j < n) :
    (w.frozen? ⟨g, j * 4, none⟩ = false ∧ w.frozen? ⟨g, j * 4 + 1, none⟩ = false ∧ w.frozen? ⟨g, j * 4 + 2, none⟩ = false ∧ w.frozen? ⟨g, j * 4 + 3, none⟩ = false) ∧
    ∀ q : Pf, OwnR t ((((w.setCell ⟨g, j * 4, none⟩ (.bool q.s)).setCell ⟨g, j * 4 + 1, none⟩ (.int .i64 q.H.toInt)).setCell ⟨g, j * 4 + 2, none⟩ (.int .i64 q.L.toInt)).setCell ⟨g, j * 4 + 3, none⟩ (.int .i64 q.b)) B (.slice (some ⟨g, 0, none⟩) n cap) (ps.set j q) := by
  subst hn
  refine ⟨⟨World.ownsRow.frozenAt h _, World.ownsRow.frozenAt h _, World.ownsRow.frozenAt h _, World.ownsRow.frozenAt h _⟩, fun q => ?_⟩
  have h0 := (World.ownsRow.stored h (j * 4) (.bool q.s)).1
  have h1 := (World.ownsRow.stored h0 (j * 4 + 1) (.int .i64 q.H.toInt)).1
  have h2 := (World.ownsRow.stored h1 (j * 4 + 2) (.int .i64 q.L.toInt)).1
  have h3 := (World.ownsRow.stored h2 (j * 4 + 3) (.int .i64 q.b)).1
  rw [flat_set ps j q hj] at h3
  unfold OwnR
  rw [List.length_set]
  exact h3

set_option maxHeartbeats 1000000 in
theorem toPrefixS_any (a : Option Addr) (cap : Nat) (ps : List Pf) (w : World) (hB : Row w a ps) (hl : ps.length ≤ 1048576) :
    Calls Try.prog 18 #[.slice a ps.length cap] w fun e w' => ∃ g, e = .returned (.slice (some ⟨g, 0, none⟩) ps.length ps.length) ∧ OwnR 31 w' w.heap.size (.slice (some ⟨g, 0, none⟩) ps.length ps.length) ps ∧ Below w.heap.size w w' := by
  obtain ⟨i0, hi, hz0, hz1, hz2⟩ := info_parts Try.fourP.2
  have HB : Hid (Row w a ps) := hB
  clear hB
  obtain ⟨n, hn⟩ : ∃ n, n = ps.length := ⟨_, rfl⟩
  rw [← hn] at hl ⊢
  have HN : Hid (n = ps.length) := hn
  clear hn
  go_enter Try.func18, Try.ntmps18
  go_wp2_with (refine wpList_make_full _ rfl (.tmp 6) (.tmp 6) 24 rfl w.heap.size 31 i0 _ 4 Try.fourP.1 hi hz0 hz1 .i64 .i64 n n n rfl rfl rfl rfl (by rw [hz2]; omega) (by unfold maxLen; omega) (Nat.le_refl _) ?_; intro w1 hown hgrow)
  have HO : Hid (OwnR 31 w1 w.heap.size (.slice (some ⟨w.heap.size, 0, none⟩) n n) (ps.take 0 ++ List.replicate (ps.length - 0) Pf.zero)) := by
    rw [made_four] at hown
    refine hidP ?_
    unfold OwnR
    rw [Nat.sub_zero, List.take_zero, List.nil_append, List.length_replicate, ← HN.out]; exact hown
  have HW : Hid (Below w.heap.size w w1) := (Below.refl _ w).grown hgrow (Nat.le_refl _) (fun k hk => by cases hk)
  clear hown hgrow
  go_loopw [4] (fun t4 wr => ∃ k : Nat, k ≤ n ∧ t4 = .int .i64 k ∧ OwnR 31 wr w.heap.size (.slice (some ⟨w.heap.size, 0, none⟩) n n) (ps.take k ++ List.replicate (ps.length - k) Pf.zero) ∧ Below w.heap.size w wr) (fun t4 _ => n - (intOf t4).toNat)
  case atStart => exact ⟨0, Nat.zero_le _, rfl, HO.out, HW.out⟩
  case round =>
    obtain ⟨k, hk, rfl, hown, hbel⟩ := hrel
    by_cases hlt : k < n
    · obtain ⟨p, o, q, rfl, hp, hq, c0, c1, c2, c3⟩ := HB.out k (by rw [← HN.out]; exact hlt)
      have d0 := (hbel.cell hp).trans c0
      have d1 := (hbel.cell hp).trans c1
      have d2 := (hbel.cell hp).trans c2
      have d3 := (hbel.cell hp).trans c3
      have HOw := hidP hown
      have HBel := hidP hbel
      have HQ := hidP hq
      clear hown hbel c0 c1 c2 c3 hq HO HW
      go_wp2_with fail
      refine (toPrefix_any q.s q.H.toInt q.L.toInt q.b _).mono ?_
      rintro e w2 ⟨rfl, hb2⟩
      have ho2 := HOw.out.later hb2
      obtain ⟨⟨f0, f1, f2, f3⟩, hput⟩ := ho2.put (by rw [List.length_append, List.length_take, List.length_replicate, HN.out]; have := HN.out; omega) k hlt
      have hput' := hput q
      rw [copy_step ps k q (by rw [← HN.out]; exact hlt) HQ.out] at hput'
      have HP := hidP hput'
      obtain ⟨p', o', q', e', hp', _, e0, e1, e2, e3⟩ := ho2.row k (by rw [List.length_append, List.length_take, List.length_replicate]; have := HN.out; omega)
      simp only [Option.some.injEq, Addr.mk.injEq, and_true] at e'
      obtain ⟨rfl, rfl⟩ := e'
      rw [Nat.zero_add] at e0 e1 e2 e3
      have HBel2 := hidP (HBel.out.trans (hb2.mono HBel.out.size))
      clear hput hput' ho2 hb2 HBel HOw d0 d1 d2 d3
      go_wp2_with fail
      go_roundw
      case rel => exact ⟨k + 1, by omega, by go_num, HP.out, (((HBel2.out.setCell (Nat.le_refl _) _).setCell (Nat.le_refl _) _).setCell (Nat.le_refl _) _).setCell (Nat.le_refl _) _⟩
      case measure => simp [intOf]; omega
    · have hkn : k = n := by omega
      subst hkn
      have HO2 : Hid (OwnR 31 wr w.heap.size (.slice (some ⟨w.heap.size, 0, none⟩) k k) ps) := by
        have e := HN.out
        rw [e, List.take_length, Nat.sub_self, List.replicate_zero, List.append_nil] at hown
        rw [← e] at hown
        exact hidP hown
      have HBel : Hid (Below w.heap.size w wr) := hbel
      clear hown hbel HO HW
      go_wp2
      go_ret
      exact ⟨_, rfl, HO2.out, HBel.out⟩

end Go.Proofs.Ytgohffeneibhdaa
