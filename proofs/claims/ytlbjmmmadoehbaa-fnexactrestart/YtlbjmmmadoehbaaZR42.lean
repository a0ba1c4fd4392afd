/-
  For every Id and every Keep the two Restart answer alike, in memory of their own, and leave the Keep as it was, so the exact law of Restart returns true; no condition.
  First: what came in, opened.
-/
import Derived.Test.YtlbjmmmadoehbaaZR3
import Derived.ProofKit
import Derived.OpenShut
import Derived.Lib.SmallJoins
import Derived.Carry
import Derived.Deep.Slices
import Derived.ChangeMaps5
import Derived.ChangeSame
import Derived.Test.YtlbjmmmadoehbaaZR41
import Derived.Deep.DeepHandedRow
namespace Go.Proofs.Ytlbjmmmadoehbaa
open Go.ChangeShapes Go.WideShapes Go.ChangeAt Go.RowKit Go.Joins Go.Deep

/-- What is read of such cells stands for one. -/
def OpC {α : Type} (P : Program) (T : Cd α) (t : TypeId) : Prop := ∀ (H : Type) (enc : TypeId × Value → H) (W : World) (fuel : Nat) (cs : List Value) (x : DataW H × List MemPlace), DataW.trod enc P W 0 (fun _ => true) true fuel t cs = some x → ∃ y, T.rep W 0 cs y
theorem op_int {P : Program} {t : TypeId} (ht : P.underlying t = some (.int .i64)) : OpC P cInt t := fun H enc W fuel cs x h => by
  obtain ⟨n, rfl, _⟩ := DataW.trod_int ht h
  exact ⟨n, rfl⟩
theorem op_byte {P : Program} {t : TypeId} (ht : P.underlying t = some (.int .u8)) : OpC P cByte t := fun H enc W fuel cs x h => by
  obtain ⟨n, rfl, _, hn⟩ := DataW.trod_int ht h
  have hn2 : 0 ≤ n ∧ n ≤ 255 := by simpa [Lit.wf, IntKind.min, IntKind.max, IntKind.signed, IntKind.bits] using hn
  exact ⟨n, rfl, hn2.1, hn2.2⟩
theorem op_bool {P : Program} {t : TypeId} (ht : P.underlying t = some .bool) : OpC P cBool t := fun H enc W fuel cs x h => by
  obtain ⟨n, rfl, _⟩ := DataW.trod_bool ht h
  exact ⟨n, rfl⟩
theorem op_str {P : Program} {t : TypeId} (ht : P.underlying t = some .string) : OpC P cStr t := fun H enc W fuel cs x h => by
  cases fuel with
  | zero => simp [DataW.trod] at h
  | succ n =>
    unfold DataW.trod at h
    rw [ht] at h
    split at h <;> simp_all
    exact ⟨_, rfl, by unfold maxLen at *; omega⟩
theorem rows_ex {α : Type} {p : Nat → α → Prop} : ∀ n : Nat, (∀ j, j < n → ∃ x, p j x) → ∃ xs : List α, xs.length = n ∧ ∀ j x, xs[j]? = some x → p j x
  | 0, _ => ⟨[], rfl, fun j x h => by cases h⟩
  | n + 1, h => by
    obtain ⟨xs, hl, hp⟩ := rows_ex n (fun j hj => h j (by omega))
    obtain ⟨x, hx⟩ := h n (by omega)
    refine ⟨xs ++ [x], by rw [List.length_append, hl]; rfl, fun j y hy => ?_⟩
    by_cases hj : j < n
    · rw [List.getElem?_append_left (by omega)] at hy
      exact hp j y hy
    · have h2 := (List.getElem?_eq_some_iff.1 hy).1
      rw [List.length_append, hl] at h2
      have h3 : j = n := by simp at h2; omega
      subst h3
      rw [List.getElem?_append_right (by omega), hl, Nat.sub_self] at hy
      obtain rfl := Option.some.inj hy
      exact hx
theorem op_row {α : Type} {P : Program} {T : Cd α} {t e : TypeId} (ht : P.underlying t = some (.slice e)) (hk : P.cellsOf e = T.k) (h0 : 0 < T.k) (hT : OpC P T e) : OpC P (cRow T) t := fun H enc W fuel cs x h => by
  rcases open_slice ht h with ⟨rfl, _⟩ | ⟨a, len, cap, m, n, D, Pl, rfl, _, hl, hmx, hm, _, hV⟩
  · exact ⟨[], none, 0, rfl, Nat.zero_le _, fun j x h => by cases h⟩
  · have hml : m = cap := by rw [hm]; rfl
    obtain ⟨xs, hxl, hxs⟩ := rows_ex (p := fun j x => At T W 0 (some a) j x) len (fun j hj => by
      obtain ⟨cs', h1, h2⟩ := hV j (by omega)
      obtain ⟨y, hy⟩ := hT H enc W n cs' _ h2
      obtain ⟨_, hlen, hcell⟩ := World.cells?_some h1
      obtain ⟨p, o, sp⟩ := a
      cases sp with
      | some r =>
        exfalso
        obtain ⟨cs0, g1, _⟩ := hV 0 (by omega)
        obtain ⟨_, glen, gcell⟩ := World.cells?_some g1
        have hc := gcell 0 (by omega)
        rw [Nat.zero_mul, show Addr.add (Addr.add ⟨p, o, some r⟩ 0) 0 = ⟨p, o, some r⟩ from rfl] at hc
        have hq : cs0[0]? = some (cs0[0]'(by omega)) := List.getElem?_eq_getElem _
        rw [hq] at hc
        unfold World.cell? at hc
        split at hc
        · simp at hc
        · cases hc
      | none =>
        have hseg : Seg W p (o + j * T.k) cs' := fun i u hu => by
          have hi : i < cs'.length := (List.getElem?_eq_some_iff.1 hu).1
          have hc := hcell i (by omega)
          rw [add_E, add_E, hk] at hc
          exact hc.trans hu
        refine ⟨y, p, o, cs', rfl, Nat.zero_le _, ?_, hseg, hy⟩
        have hq : cs'[0]? = some (cs'[0]'(by omega)) := List.getElem?_eq_getElem _
        exact World.block_lt_of_cell? W _ (hseg 0 _ hq))
    refine ⟨xs, some a, cap, by rw [hxl], by unfold maxLen at hmx; omega, hxs⟩
theorem op_arr {P : Program} {t e : TypeId} {n : Nat} (ht : P.underlying t = some (.array n e)) (he : P.underlying e = some (.int .i64)) (hk : P.cellsOf e = 1) (ht1 : P.cellsOf t = n) : OpC P (cArr n) t := fun H enc W fuel cs x h => by
  obtain ⟨xs, m, _, _, hl, hxl, hx⟩ := DataW.trod_array ht h
  have hall : ∀ l : List Value, (∀ u ∈ l, ∃ z, u = .int .i64 z) → ∃ zs : List Int, l = zs.map (fun x => .int .i64 x) := by
    intro l
    induction l with
    | nil => exact fun _ => ⟨[], rfl⟩
    | cons u t ih =>
      intro hu
      obtain ⟨z, rfl⟩ := hu u (List.mem_cons_self ..)
      obtain ⟨zs, rfl⟩ := ih (fun v hv => hu v (List.mem_cons_of_mem _ hv))
      exact ⟨z :: zs, rfl⟩
  obtain ⟨zs, rfl⟩ := hall cs (fun u hu => by
    obtain ⟨i, hi⟩ := List.mem_iff_getElem?.1 hu
    have hil := (List.getElem?_eq_some_iff.1 hi).1
    have h1 := hx i (by omega)
    rw [hk, Nat.mul_one, List.getElem?_eq_getElem (by omega)] at h1
    obtain ⟨z, hz, _⟩ := DataW.trod_int he h1
    have h2 : (cs.drop i).take 1 = [u] := by
      rw [List.drop_eq_getElem_cons hil, (List.getElem?_eq_some_iff.1 hi).2]
      rfl
    rw [h2] at hz
    exact ⟨z, (List.cons.inj hz).1⟩)
  exact ⟨zs, rfl, by rw [List.length_map] at hl; omega⟩
theorem op_step {α β : Type} {P : Program} {A : Cd α} {T : Cd β} {t : TypeId} {W : World} {cs : List Value} {off k n : Nat} {x : α} {H : Type} {enc : TypeId × Value → H} {z : DataW H × List MemPlace} (hA : A.rep W 0 (cs.take off) x) (hT : OpC P T t) (hk : P.cellsOf t = k) (f : DataW.trod enc P W 0 (fun _ => true) true n t ((cs.drop off).take (P.cellsOf t)) = some z) :
    ∃ b, (cTwo A T).rep W 0 (cs.take (off + k)) (x, b) := by
  obtain ⟨b, hb⟩ := hT H enc W n _ z f
  rw [hk] at hb
  exact ⟨b, cs.take off, (cs.drop off).take k, List.take_add, hA, hb⟩

set_option maxRecDepth 100000 in
set_option maxHeartbeats 2000000 in
theorem opIntS : OpC Try.prog cIntS 22 := op_row Try.underlying22 (by kernel_rfl) (by rw [show cInt.k = 1 by kernel_rfl]; decide) (op_int Try.underlying3)
set_option maxRecDepth 100000 in
set_option maxHeartbeats 2000000 in
theorem opGroup : OpC Try.prog cGroup 24 := fun H enc W fuel cs x h => by
  obtain ⟨xs, n, _, _, hl, hxl, hx⟩ := DataW.trod_struct Try.underlying24 h
  have hl2 : cs.length = 2 := hl.trans (by kernel_rfl)
  have hm : xs.length = 2 := hxl
  have r0 : cNil.rep W 0 (cs.take 0) () := rfl
  have f0 := (hx 0 _ rfl).trans (List.getElem?_eq_getElem (by omega))
  obtain ⟨y0, r1⟩ := op_step (t := 22) (off := 0) (k := 1) (n := n) r0 opIntS (by kernel_rfl) f0
  have f1 := (hx 1 _ rfl).trans (List.getElem?_eq_getElem (by omega))
  obtain ⟨y1, r2⟩ := op_step (t := 22) (off := 1) (k := 1) (n := n) r1 opIntS (by kernel_rfl) f1
  rw [List.take_of_length_le (by omega)] at r2
  exact ⟨_, r2⟩
set_option maxRecDepth 100000 in
set_option maxHeartbeats 2000000 in
theorem opByteS : OpC Try.prog cByteS 25 := op_row Try.underlying25 (by kernel_rfl) (by rw [show cByte.k = 1 by kernel_rfl]; decide) (op_byte Try.underlying5)
set_option maxRecDepth 100000 in
set_option maxHeartbeats 2000000 in
theorem opEntry : OpC Try.prog cEntry 64 := fun H enc W fuel cs x h => by
  obtain ⟨xs, n, _, _, hl, hxl, hx⟩ := DataW.trod_struct Try.underlying64 h
  have hl2 : cs.length = 3 := hl.trans (by kernel_rfl)
  have hm : xs.length = 3 := hxl
  have r0 : cNil.rep W 0 (cs.take 0) () := rfl
  have f0 := (hx 0 _ rfl).trans (List.getElem?_eq_getElem (by omega))
  obtain ⟨y0, r1⟩ := op_step (t := 3) (off := 0) (k := 1) (n := n) r0 (op_int Try.underlying3) (by kernel_rfl) f0
  have f1 := (hx 1 _ rfl).trans (List.getElem?_eq_getElem (by omega))
  obtain ⟨y1, r2⟩ := op_step (t := 3) (off := 1) (k := 1) (n := n) r1 (op_int Try.underlying3) (by kernel_rfl) f1
  have f2 := (hx 2 _ rfl).trans (List.getElem?_eq_getElem (by omega))
  obtain ⟨y2, r3⟩ := op_step (t := 25) (off := 2) (k := 1) (n := n) r2 opByteS (by kernel_rfl) f2
  rw [List.take_of_length_le (by omega)] at r3
  exact ⟨_, r3⟩
set_option maxRecDepth 100000 in
set_option maxHeartbeats 2000000 in
theorem opEntryS : OpC Try.prog cEntryS 26 := op_row Try.underlying26 (by kernel_rfl) (by rw [show cEntry.k = 3 by kernel_rfl]; decide) opEntry
set_option maxRecDepth 100000 in
set_option maxHeartbeats 2000000 in
theorem opKeep : OpC Try.prog cKeep 28 := fun H enc W fuel cs x h => by
  obtain ⟨xs, n, _, _, hl, hxl, hx⟩ := DataW.trod_struct Try.underlying28 h
  have hl2 : cs.length = 8 := hl.trans (by kernel_rfl)
  have hm : xs.length = 7 := hxl
  have r0 : cNil.rep W 0 (cs.take 0) () := rfl
  have f0 := (hx 0 _ rfl).trans (List.getElem?_eq_getElem (by omega))
  obtain ⟨y0, r1⟩ := op_step (t := 3) (off := 0) (k := 1) (n := n) r0 (op_int Try.underlying3) (by kernel_rfl) f0
  have f1 := (hx 1 _ rfl).trans (List.getElem?_eq_getElem (by omega))
  obtain ⟨y1, r2⟩ := op_step (t := 3) (off := 1) (k := 1) (n := n) r1 (op_int Try.underlying3) (by kernel_rfl) f1
  have f2 := (hx 2 _ rfl).trans (List.getElem?_eq_getElem (by omega))
  obtain ⟨y2, r3⟩ := op_step (t := 3) (off := 2) (k := 1) (n := n) r2 (op_int Try.underlying3) (by kernel_rfl) f2
  have f3 := (hx 3 _ rfl).trans (List.getElem?_eq_getElem (by omega))
  obtain ⟨y3, r4⟩ := op_step (t := 3) (off := 3) (k := 1) (n := n) r3 (op_int Try.underlying3) (by kernel_rfl) f3
  have f4 := (hx 4 _ rfl).trans (List.getElem?_eq_getElem (by omega))
  obtain ⟨y4, r5⟩ := op_step (t := 24) (off := 4) (k := 2) (n := n) r4 opGroup (by kernel_rfl) f4
  have f5 := (hx 5 _ rfl).trans (List.getElem?_eq_getElem (by omega))
  obtain ⟨y5, r6⟩ := op_step (t := 25) (off := 6) (k := 1) (n := n) r5 opByteS (by kernel_rfl) f5
  have f6 := (hx 6 _ rfl).trans (List.getElem?_eq_getElem (by omega))
  obtain ⟨y6, r7⟩ := op_step (t := 26) (off := 7) (k := 1) (n := n) r6 opEntryS (by kernel_rfl) f6
  rw [List.take_of_length_le (by omega)] at r7
  exact ⟨_, r7⟩
set_option maxRecDepth 100000 in
set_option maxHeartbeats 2000000 in
theorem opIntA8 : OpC Try.prog cIntA8 34 := op_arr Try.underlying34 Try.underlying3 (by kernel_rfl) (by kernel_rfl)
end Go.Proofs.Ytlbjmmmadoehbaa

/-
  For every Id and every Keep the two Restart answer alike, in memory of their own, and leave the Keep as it was, so the exact law of Restart returns true; no condition.
-/
namespace Go.Proofs.Ytlbjmmmadoehbaa
open Go.ChangeShapes Go.WideShapes Go.ChangeAt Go.RowKit Go.Joins Go.Deep

theorem Try.ownE : ownKnob Try.prog.godebug = none := by kernel_rfl
theorem Try.laidOutE : laidOutB Try.prog = true := by kernel_rfl
set_option maxRecDepth 100000 in
set_option maxHeartbeats 4000000 in
theorem restart_lifted (os : Os) (started : os.Started) (H : Type) (enc : TypeId × Value → H) :
    ReturnsInHanded {} Try.checked os 3 .any (Rows.fnExactRestartSpec.pre6 enc Try.prog Try.f3 Rows.fnExactRestartRow.domain false) (Rows.fnExactRestartSpec.post enc Try.prog Try.f3 false true false false) := by
  refine returnsInHanded_of_change (C := Try.checked) Try.ownE started (by kernel_rfl) Try.func3
    (ChangeSpec.witness6 (enc := enc) (C := Try.checked) false ⟨#[], #[.int .i64 0, .agg #[.int .i64 0, .int .i64 0, .int .i64 0, .int .i64 0, .slice none 0 0, .slice none 0 0, .slice none 0 0, .slice none 0 0]], []⟩ 8 (by kernel_rfl) (by kernel_rfl) (by kernel_rfl) (by kernel_rfl)) ?_
  intro W base args ds gs before hval0 hW _ _
  have hval : ∀ (j : Nat) t v, Try.f3.params[j]? = some t → args[j]? = some v → Value.okWide Try.prog W .any base t v := hval0
  have hW' := hW
  obtain ⟨p, q, hA0, hV, rfl, _, _⟩ := hW
  have hA : DataW.TrodAll enc Try.prog W 0 (fun _ => true) true Try.f3.params.toList args.toList ds p := hA0
  rw [Try.params3] at hA hval
  obtain ⟨v0, v1, d0, d1, p0, p1, rfl, rfl, rfl, h0, h1⟩ := trodAll_two hA
  obtain ⟨rfl, rfl⟩ := trodVars_none hV
  obtain ⟨x, rfl, rfl, rfl, wu⟩ := open_int Try.underlying3 (hval 0 3 v0 rfl rfl) h0
  obtain ⟨cs, rfl, _⟩ := okWide_struct Try.underlying28 (hval 1 28 v1 rfl rfl)
  obtain ⟨fuel, hf⟩ := h1
  obtain ⟨y, hy⟩ := opKeep H enc W fuel cs.toList _ hf
  have h1 : DataW.Trod enc Try.prog W 0 (fun _ => true) true 28 (.agg cs) d1 p1 := ⟨fuel, hf⟩
  clear hA0 hval0
  simp only [List.append_nil, List.nil_append] at hW'
  have hlt0 : ∀ x ∈ p1, x.block < W.heap.size := fun x hx => by simpa using hW'.lt x hx
  have hlaw := lawRestart x cs.toList y W hy
  rw [show vA cs.toList = .agg cs by simp [vA]] at hlaw
  refine hlaw.mono fun e W' ⟨he, hb⟩ => ?_
  subst he
  exact ⟨_, rfl, ⟨_, _, _, [], p1, [], hW', trodAll_mk1 (shut_bool Try.underlying4 true), trodAll_mk2 (p := []) (shut_int Try.underlying3 wu) (Below.trod Try.laidOutE (by kernel_rfl) (of_decide_eq_true (by kernel_rfl)) h1 hb hlt0), rfl, hb.frame _, fun h => by cases h⟩⟩

theorem restart_holds : Rows.FnExactRestartSaid :=
  OpenClaim.holds_of_wide 3 Try.f3 rfl rfl rfl rfl rfl rfl rfl ⟨rfl, rfl, rfl, rfl, rfl⟩ rfl rfl rfl rfl rfl (by kernel_rfl) Try.func3 (by kernel_rfl)
    (of_decide_eq_true (by kernel_rfl)) (by unfold Func.isWrapper; rw [if_neg (of_decide_eq_false (by kernel_rfl))]; exact ⟨rfl, rfl⟩)
    (fun os started H enc _ => restart_lifted os started H enc)

end Go.Proofs.Ytlbjmmmadoehbaa
