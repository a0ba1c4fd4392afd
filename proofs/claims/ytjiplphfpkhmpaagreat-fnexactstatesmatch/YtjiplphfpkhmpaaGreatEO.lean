/-
  What came in, opened: a cluster and all that it holds.
-/
import Derived.Test.YtjiplphfpkhmpaaGreatE4
import Derived.ProofKit
import Derived.OpenShut
import Derived.Lib.SmallJoins
import Derived.Carry
import Derived.Deep.Slices
import Derived.ChangeMaps5
import Derived.ChangeSame
namespace Go.Proofs.YtjiplphfpkhmpaaGreat
open Go.ChangeShapes Go.WideShapes Go.ChangeAt Go.RowKit Go.Joins Go.Deep

/-- What is read of such cells stands for one. -/
def OpC {α : Type} (P : Program) (T : Cd α) (t : TypeId) : Prop := ∀ (H : Type) (enc : TypeId × Value → H) (W : World) (fuel : Nat) (cs : List Value) (x : DataW H × List MemPlace), DataW.trod enc P W 0 (fun _ => true) true fuel t cs = some x → ∃ y, T.rep W 0 cs y
theorem op_int {P : Program} {t : TypeId} (ht : P.underlying t = some (.int .i64)) : OpC P cInt t := fun H enc W fuel cs x h => by
  obtain ⟨n, rfl, _⟩ := DataW.trod_int ht h
  exact ⟨n, rfl⟩
theorem op_byte {P : Program} {t : TypeId} (ht : P.underlying t = some (.int .u8)) : OpC P cByte t := fun H enc W fuel cs x h => by
  obtain ⟨n, rfl, _, hn⟩ := DataW.trod_int ht h
  have hn2 : 0 ≤ n ∧ n ≤ 255 := by simpa [Lit.wf, IntKind.min, IntKind.max, IntKind.signed, IntKind.bits] using hn
  exact ⟨n, rfl, hn2.1, hn2.2⟩
theorem op_bool {P : Program} {t : TypeId} (ht : P.underlying t = some .bool) : OpC P cBool t := fun H enc W fuel cs x h => by
  obtain ⟨n, rfl, _⟩ := DataW.trod_bool ht h
  exact ⟨n, rfl⟩
theorem op_str {P : Program} {t : TypeId} (ht : P.underlying t = some .string) : OpC P cStr t := fun H enc W fuel cs x h => by
  cases fuel with
  | zero => simp [DataW.trod] at h
  | succ n =>
    unfold DataW.trod at h
    rw [ht] at h
    split at h <;> simp_all
    exact ⟨_, rfl, by unfold maxLen at *; omega⟩
theorem rows_ex {α : Type} {p : Nat → α → Prop} : ∀ n : Nat, (∀ j, j < n → ∃ x, p j x) → ∃ xs : List α, xs.length = n ∧ ∀ j x, xs[j]? = some x → p j x
  | 0, _ => ⟨[], rfl, fun j x h => by cases h⟩
  | n + 1, h => by
    obtain ⟨xs, hl, hp⟩ := rows_ex n (fun j hj => h j (by omega))
    obtain ⟨x, hx⟩ := h n (by omega)
    refine ⟨xs ++ [x], by rw [List.length_append, hl]; rfl, fun j y hy => ?_⟩
    by_cases hj : j < n
    · rw [List.getElem?_append_left (by omega)] at hy
      exact hp j y hy
    · have h2 := (List.getElem?_eq_some_iff.1 hy).1
      rw [List.length_append, hl] at h2
      have h3 : j = n := by simp at h2; omega
      subst h3
      rw [List.getElem?_append_right (by omega), hl, Nat.sub_self] at hy
      obtain rfl := Option.some.inj hy
      exact hx
theorem op_row {α : Type} {P : Program} {T : Cd α} {t e : TypeId} (ht : P.underlying t = some (.slice e)) (hk : P.cellsOf e = T.k) (h0 : 0 < T.k) (hT : OpC P T e) : OpC P (cRow T) t := fun H enc W fuel cs x h => by
  rcases open_slice ht h with ⟨rfl, _⟩ | ⟨a, len, cap, m, n, D, Pl, rfl, _, hl, hmx, hm, _, hV⟩
  · exact ⟨[], none, 0, rfl, Nat.zero_le _, fun j x h => by cases h⟩
  · have hml : m = cap := by rw [hm]; rfl
    obtain ⟨xs, hxl, hxs⟩ := rows_ex (p := fun j x => At T W 0 (some a) j x) len (fun j hj => by
      obtain ⟨cs', h1, h2⟩ := hV j (by omega)
      obtain ⟨y, hy⟩ := hT H enc W n cs' _ h2
      obtain ⟨_, hlen, hcell⟩ := World.cells?_some h1
      obtain ⟨p, o, sp⟩ := a
      cases sp with
      | some r =>
        exfalso
        obtain ⟨cs0, g1, _⟩ := hV 0 (by omega)
        obtain ⟨_, glen, gcell⟩ := World.cells?_some g1
        have hc := gcell 0 (by omega)
        rw [Nat.zero_mul, show Addr.add (Addr.add ⟨p, o, some r⟩ 0) 0 = ⟨p, o, some r⟩ from rfl] at hc
        have hq : cs0[0]? = some (cs0[0]'(by omega)) := List.getElem?_eq_getElem _
        rw [hq] at hc
        unfold World.cell? at hc
        split at hc
        · simp at hc
        · cases hc
      | none =>
        have hseg : Seg W p (o + j * T.k) cs' := fun i u hu => by
          have hi : i < cs'.length := (List.getElem?_eq_some_iff.1 hu).1
          have hc := hcell i (by omega)
          rw [add_E, add_E, hk] at hc
          exact hc.trans hu
        refine ⟨y, p, o, cs', rfl, Nat.zero_le _, ?_, hseg, hy⟩
        have hq : cs'[0]? = some (cs'[0]'(by omega)) := List.getElem?_eq_getElem _
        exact World.block_lt_of_cell? W _ (hseg 0 _ hq))
    refine ⟨xs, some a, cap, by rw [hxl], by unfold maxLen at hmx; omega, hxs⟩
theorem op_arr {P : Program} {t e : TypeId} {n : Nat} (ht : P.underlying t = some (.array n e)) (he : P.underlying e = some (.int .i64)) (hk : P.cellsOf e = 1) (ht1 : P.cellsOf t = n) : OpC P (cArr n) t := fun H enc W fuel cs x h => by
  obtain ⟨xs, m, _, _, hl, hxl, hx⟩ := DataW.trod_array ht h
  have hall : ∀ l : List Value, (∀ u ∈ l, ∃ z, u = .int .i64 z) → ∃ zs : List Int, l = zs.map (fun x => .int .i64 x) := by
    intro l
    induction l with
    | nil => exact fun _ => ⟨[], rfl⟩
    | cons u t ih =>
      intro hu
      obtain ⟨z, rfl⟩ := hu u (List.mem_cons_self ..)
      obtain ⟨zs, rfl⟩ := ih (fun v hv => hu v (List.mem_cons_of_mem _ hv))
      exact ⟨z :: zs, rfl⟩
  obtain ⟨zs, rfl⟩ := hall cs (fun u hu => by
    obtain ⟨i, hi⟩ := List.mem_iff_getElem?.1 hu
    have hil := (List.getElem?_eq_some_iff.1 hi).1
    have h1 := hx i (by omega)
    rw [hk, Nat.mul_one, List.getElem?_eq_getElem (by omega)] at h1
    obtain ⟨z, hz, _⟩ := DataW.trod_int he h1
    have h2 : (cs.drop i).take 1 = [u] := by
      rw [List.drop_eq_getElem_cons hil, (List.getElem?_eq_some_iff.1 hi).2]
      rfl
    rw [h2] at hz
    exact ⟨z, (List.cons.inj hz).1⟩)
  exact ⟨zs, rfl, by rw [List.length_map] at hl; omega⟩
theorem op_step {α β : Type} {P : Program} {A : Cd α} {T : Cd β} {t : TypeId} {W : World} {cs : List Value} {off k n : Nat} {x : α} {H : Type} {enc : TypeId × Value → H} {z : DataW H × List MemPlace} (hA : A.rep W 0 (cs.take off) x) (hT : OpC P T t) (hk : P.cellsOf t = k) (f : DataW.trod enc P W 0 (fun _ => true) true n t ((cs.drop off).take (P.cellsOf t)) = some z) :
    ∃ b, (cTwo A T).rep W 0 (cs.take (off + k)) (x, b) := by
  obtain ⟨b, hb⟩ := hT H enc W n _ z f
  rw [hk] at hb
  exact ⟨b, cs.take off, (cs.drop off).take k, List.take_add, hA, hb⟩

set_option maxRecDepth 100000 in
set_option maxHeartbeats 2000000 in
theorem opIntS : OpC Tryz.prog cIntS 23 := op_row Tryz.underlying23 (by kernel_rfl) (by rw [show cInt.k = 1 by kernel_rfl]; decide) (op_int Tryz.underlying3)
set_option maxRecDepth 100000 in
set_option maxHeartbeats 2000000 in
theorem opGroup : OpC Tryz.prog cGroup 25 := fun H enc W fuel cs x h => by
  obtain ⟨xs, n, _, _, hl, hxl, hx⟩ := DataW.trod_struct Tryz.underlying25 h
  have hl2 : cs.length = 2 := hl.trans (by kernel_rfl)
  have hm : xs.length = 2 := hxl
  have r0 : cNil.rep W 0 (cs.take 0) () := rfl
  have f0 := (hx 0 _ rfl).trans (List.getElem?_eq_getElem (by omega))
  obtain ⟨y0, r1⟩ := op_step (t := 23) (off := 0) (k := 1) (n := n) r0 opIntS (by kernel_rfl) f0
  have f1 := (hx 1 _ rfl).trans (List.getElem?_eq_getElem (by omega))
  obtain ⟨y1, r2⟩ := op_step (t := 23) (off := 1) (k := 1) (n := n) r1 opIntS (by kernel_rfl) f1
  rw [List.take_of_length_le (by omega)] at r2
  exact ⟨_, r2⟩
set_option maxRecDepth 100000 in
set_option maxHeartbeats 2000000 in
theorem opByteS : OpC Tryz.prog cByteS 49 := op_row Tryz.underlying49 (by kernel_rfl) (by rw [show cByte.k = 1 by kernel_rfl]; decide) (op_byte Tryz.underlying5)
set_option maxRecDepth 100000 in
set_option maxHeartbeats 2000000 in
theorem opEntry : OpC Tryz.prog cEntry 111 := fun H enc W fuel cs x h => by
  obtain ⟨xs, n, _, _, hl, hxl, hx⟩ := DataW.trod_struct Tryz.underlying111 h
  have hl2 : cs.length = 3 := hl.trans (by kernel_rfl)
  have hm : xs.length = 3 := hxl
  have r0 : cNil.rep W 0 (cs.take 0) () := rfl
  have f0 := (hx 0 _ rfl).trans (List.getElem?_eq_getElem (by omega))
  obtain ⟨y0, r1⟩ := op_step (t := 3) (off := 0) (k := 1) (n := n) r0 (op_int Tryz.underlying3) (by kernel_rfl) f0
  have f1 := (hx 1 _ rfl).trans (List.getElem?_eq_getElem (by omega))
  obtain ⟨y1, r2⟩ := op_step (t := 3) (off := 1) (k := 1) (n := n) r1 (op_int Tryz.underlying3) (by kernel_rfl) f1
  have f2 := (hx 2 _ rfl).trans (List.getElem?_eq_getElem (by omega))
  obtain ⟨y2, r3⟩ := op_step (t := 49) (off := 2) (k := 1) (n := n) r2 opByteS (by kernel_rfl) f2
  rw [List.take_of_length_le (by omega)] at r3
  exact ⟨_, r3⟩
set_option maxRecDepth 100000 in
set_option maxHeartbeats 2000000 in
theorem opEntryS : OpC Tryz.prog cEntryS 28 := op_row Tryz.underlying28 (by kernel_rfl) (by rw [show cEntry.k = 3 by kernel_rfl]; decide) opEntry
set_option maxRecDepth 100000 in
set_option maxHeartbeats 2000000 in
theorem opKeep : OpC Tryz.prog cKeep 87 := fun H enc W fuel cs x h => by
  obtain ⟨xs, n, _, _, hl, hxl, hx⟩ := DataW.trod_struct Tryz.underlying87 h
  have hl2 : cs.length = 8 := hl.trans (by kernel_rfl)
  have hm : xs.length = 7 := hxl
  have r0 : cNil.rep W 0 (cs.take 0) () := rfl
  have f0 := (hx 0 _ rfl).trans (List.getElem?_eq_getElem (by omega))
  obtain ⟨y0, r1⟩ := op_step (t := 3) (off := 0) (k := 1) (n := n) r0 (op_int Tryz.underlying3) (by kernel_rfl) f0
  have f1 := (hx 1 _ rfl).trans (List.getElem?_eq_getElem (by omega))
  obtain ⟨y1, r2⟩ := op_step (t := 3) (off := 1) (k := 1) (n := n) r1 (op_int Tryz.underlying3) (by kernel_rfl) f1
  have f2 := (hx 2 _ rfl).trans (List.getElem?_eq_getElem (by omega))
  obtain ⟨y2, r3⟩ := op_step (t := 3) (off := 2) (k := 1) (n := n) r2 (op_int Tryz.underlying3) (by kernel_rfl) f2
  have f3 := (hx 3 _ rfl).trans (List.getElem?_eq_getElem (by omega))
  obtain ⟨y3, r4⟩ := op_step (t := 3) (off := 3) (k := 1) (n := n) r3 (op_int Tryz.underlying3) (by kernel_rfl) f3
  have f4 := (hx 4 _ rfl).trans (List.getElem?_eq_getElem (by omega))
  obtain ⟨y4, r5⟩ := op_step (t := 25) (off := 4) (k := 2) (n := n) r4 opGroup (by kernel_rfl) f4
  have f5 := (hx 5 _ rfl).trans (List.getElem?_eq_getElem (by omega))
  obtain ⟨y5, r6⟩ := op_step (t := 49) (off := 6) (k := 1) (n := n) r5 opByteS (by kernel_rfl) f5
  have f6 := (hx 6 _ rfl).trans (List.getElem?_eq_getElem (by omega))
  obtain ⟨y6, r7⟩ := op_step (t := 28) (off := 7) (k := 1) (n := n) r6 opEntryS (by kernel_rfl) f6
  rw [List.take_of_length_le (by omega)] at r7
  exact ⟨_, r7⟩
set_option maxRecDepth 100000 in
set_option maxHeartbeats 2000000 in
theorem opIntA8 : OpC Tryz.prog cIntA8 52 := op_arr Tryz.underlying52 Tryz.underlying3 (by kernel_rfl) (by kernel_rfl)
set_option maxRecDepth 100000 in
set_option maxHeartbeats 2000000 in
theorem opServer : OpC Tryz.prog cServer 89 := fun H enc W fuel cs x h => by
  obtain ⟨xs, n, _, _, hl, hxl, hx⟩ := DataW.trod_struct Tryz.underlying89 h
  have hl2 : cs.length = 31 := hl.trans (by kernel_rfl)
  have hm : xs.length = 10 := hxl
  have r0 : cNil.rep W 0 (cs.take 0) () := rfl
  have f0 := (hx 0 _ rfl).trans (List.getElem?_eq_getElem (by omega))
  obtain ⟨y0, r1⟩ := op_step (t := 3) (off := 0) (k := 1) (n := n) r0 (op_int Tryz.underlying3) (by kernel_rfl) f0
  have f1 := (hx 1 _ rfl).trans (List.getElem?_eq_getElem (by omega))
  obtain ⟨y1, r2⟩ := op_step (t := 87) (off := 1) (k := 8) (n := n) r1 opKeep (by kernel_rfl) f1
  have f2 := (hx 2 _ rfl).trans (List.getElem?_eq_getElem (by omega))
  obtain ⟨y2, r3⟩ := op_step (t := 3) (off := 9) (k := 1) (n := n) r2 (op_int Tryz.underlying3) (by kernel_rfl) f2
  have f3 := (hx 3 _ rfl).trans (List.getElem?_eq_getElem (by omega))
  obtain ⟨y3, r4⟩ := op_step (t := 3) (off := 10) (k := 1) (n := n) r3 (op_int Tryz.underlying3) (by kernel_rfl) f3
  have f4 := (hx 4 _ rfl).trans (List.getElem?_eq_getElem (by omega))
  obtain ⟨y4, r5⟩ := op_step (t := 3) (off := 11) (k := 1) (n := n) r4 (op_int Tryz.underlying3) (by kernel_rfl) f4
  have f5 := (hx 5 _ rfl).trans (List.getElem?_eq_getElem (by omega))
  obtain ⟨y5, r6⟩ := op_step (t := 23) (off := 12) (k := 1) (n := n) r5 opIntS (by kernel_rfl) f5
  have f6 := (hx 6 _ rfl).trans (List.getElem?_eq_getElem (by omega))
  obtain ⟨y6, r7⟩ := op_step (t := 52) (off := 13) (k := 8) (n := n) r6 opIntA8 (by kernel_rfl) f6
  have f7 := (hx 7 _ rfl).trans (List.getElem?_eq_getElem (by omega))
  obtain ⟨y7, r8⟩ := op_step (t := 52) (off := 21) (k := 8) (n := n) r7 opIntA8 (by kernel_rfl) f7
  have f8 := (hx 8 _ rfl).trans (List.getElem?_eq_getElem (by omega))
  obtain ⟨y8, r9⟩ := op_step (t := 3) (off := 29) (k := 1) (n := n) r8 (op_int Tryz.underlying3) (by kernel_rfl) f8
  have f9 := (hx 9 _ rfl).trans (List.getElem?_eq_getElem (by omega))
  obtain ⟨y9, r10⟩ := op_step (t := 3) (off := 30) (k := 1) (n := n) r9 (op_int Tryz.underlying3) (by kernel_rfl) f9
  rw [List.take_of_length_le (by omega)] at r10
  exact ⟨_, r10⟩
set_option maxRecDepth 100000 in
set_option maxHeartbeats 2000000 in
theorem opAddr : OpC Tryz.prog cAddr 181 := fun H enc W fuel cs x h => by
  obtain ⟨xs, n, _, _, hl, hxl, hx⟩ := DataW.trod_struct Tryz.underlying181 h
  have hl2 : cs.length = 3 := hl.trans (by kernel_rfl)
  have hm : xs.length = 3 := hxl
  have r0 : cNil.rep W 0 (cs.take 0) () := rfl
  have f0 := (hx 0 _ rfl).trans (List.getElem?_eq_getElem (by omega))
  obtain ⟨y0, r1⟩ := op_step (t := 4) (off := 0) (k := 1) (n := n) r0 (op_bool Tryz.underlying4) (by kernel_rfl) f0
  have f1 := (hx 1 _ rfl).trans (List.getElem?_eq_getElem (by omega))
  obtain ⟨y1, r2⟩ := op_step (t := 3) (off := 1) (k := 1) (n := n) r1 (op_int Tryz.underlying3) (by kernel_rfl) f1
  have f2 := (hx 2 _ rfl).trans (List.getElem?_eq_getElem (by omega))
  obtain ⟨y2, r3⟩ := op_step (t := 3) (off := 2) (k := 1) (n := n) r2 (op_int Tryz.underlying3) (by kernel_rfl) f2
  rw [List.take_of_length_le (by omega)] at r3
  exact ⟨_, r3⟩
set_option maxRecDepth 100000 in
set_option maxHeartbeats 2000000 in
theorem opPrefix : OpC Tryz.prog cPrefix 183 := fun H enc W fuel cs x h => by
  obtain ⟨xs, n, _, _, hl, hxl, hx⟩ := DataW.trod_struct Tryz.underlying183 h
  have hl2 : cs.length = 4 := hl.trans (by kernel_rfl)
  have hm : xs.length = 2 := hxl
  have r0 : cNil.rep W 0 (cs.take 0) () := rfl
  have f0 := (hx 0 _ rfl).trans (List.getElem?_eq_getElem (by omega))
  obtain ⟨y0, r1⟩ := op_step (t := 181) (off := 0) (k := 3) (n := n) r0 opAddr (by kernel_rfl) f0
  have f1 := (hx 1 _ rfl).trans (List.getElem?_eq_getElem (by omega))
  obtain ⟨y1, r2⟩ := op_step (t := 3) (off := 3) (k := 1) (n := n) r1 (op_int Tryz.underlying3) (by kernel_rfl) f1
  rw [List.take_of_length_le (by omega)] at r2
  exact ⟨_, r2⟩
set_option maxRecDepth 100000 in
set_option maxHeartbeats 2000000 in
theorem opPool : OpC Tryz.prog cPool 193 := fun H enc W fuel cs x h => by
  obtain ⟨xs, n, _, _, hl, hxl, hx⟩ := DataW.trod_struct Tryz.underlying193 h
  have hl2 : cs.length = 5 := hl.trans (by kernel_rfl)
  have hm : xs.length = 2 := hxl
  have r0 : cNil.rep W 0 (cs.take 0) () := rfl
  have f0 := (hx 0 _ rfl).trans (List.getElem?_eq_getElem (by omega))
  obtain ⟨y0, r1⟩ := op_step (t := 183) (off := 0) (k := 4) (n := n) r0 opPrefix (by kernel_rfl) f0
  have f1 := (hx 1 _ rfl).trans (List.getElem?_eq_getElem (by omega))
  obtain ⟨y1, r2⟩ := op_step (t := 3) (off := 4) (k := 1) (n := n) r1 (op_int Tryz.underlying3) (by kernel_rfl) f1
  rw [List.take_of_length_le (by omega)] at r2
  exact ⟨_, r2⟩
set_option maxRecDepth 100000 in
set_option maxHeartbeats 2000000 in
theorem opPoolS : OpC Tryz.prog cPoolS 90 := op_row Tryz.underlying90 (by kernel_rfl) (by rw [show cPool.k = 5 by kernel_rfl]; decide) opPool
set_option maxRecDepth 100000 in
set_option maxHeartbeats 2000000 in
theorem opBlock : OpC Tryz.prog cBlock 185 := fun H enc W fuel cs x h => by
  obtain ⟨xs, n, _, _, hl, hxl, hx⟩ := DataW.trod_struct Tryz.underlying185 h
  have hl2 : cs.length = 5 := hl.trans (by kernel_rfl)
  have hm : xs.length = 2 := hxl
  have r0 : cNil.rep W 0 (cs.take 0) () := rfl
  have f0 := (hx 0 _ rfl).trans (List.getElem?_eq_getElem (by omega))
  obtain ⟨y0, r1⟩ := op_step (t := 183) (off := 0) (k := 4) (n := n) r0 opPrefix (by kernel_rfl) f0
  have f1 := (hx 1 _ rfl).trans (List.getElem?_eq_getElem (by omega))
  obtain ⟨y1, r2⟩ := op_step (t := 9) (off := 4) (k := 1) (n := n) r1 (op_str Tryz.underlying9) (by kernel_rfl) f1
  rw [List.take_of_length_le (by omega)] at r2
  exact ⟨_, r2⟩
set_option maxRecDepth 100000 in
set_option maxHeartbeats 2000000 in
theorem opBlockS : OpC Tryz.prog cBlockS 91 := op_row Tryz.underlying91 (by kernel_rfl) (by rw [show cBlock.k = 5 by kernel_rfl]; decide) opBlock
set_option maxRecDepth 100000 in
set_option maxHeartbeats 2000000 in
theorem opPlan : OpC Tryz.prog cPlan 93 := fun H enc W fuel cs x h => by
  obtain ⟨xs, n, _, _, hl, hxl, hx⟩ := DataW.trod_struct Tryz.underlying93 h
  have hl2 : cs.length = 2 := hl.trans (by kernel_rfl)
  have hm : xs.length = 2 := hxl
  have r0 : cNil.rep W 0 (cs.take 0) () := rfl
  have f0 := (hx 0 _ rfl).trans (List.getElem?_eq_getElem (by omega))
  obtain ⟨y0, r1⟩ := op_step (t := 90) (off := 0) (k := 1) (n := n) r0 opPoolS (by kernel_rfl) f0
  have f1 := (hx 1 _ rfl).trans (List.getElem?_eq_getElem (by omega))
  obtain ⟨y1, r2⟩ := op_step (t := 91) (off := 1) (k := 1) (n := n) r1 opBlockS (by kernel_rfl) f1
  rw [List.take_of_length_le (by omega)] at r2
  exact ⟨_, r2⟩
set_option maxRecDepth 100000 in
set_option maxHeartbeats 2000000 in
theorem opLease : OpC Tryz.prog cLease 188 := fun H enc W fuel cs x h => by
  obtain ⟨xs, n, _, _, hl, hxl, hx⟩ := DataW.trod_struct Tryz.underlying188 h
  have hl2 : cs.length = 6 := hl.trans (by kernel_rfl)
  have hm : xs.length = 4 := hxl
  have r0 : cNil.rep W 0 (cs.take 0) () := rfl
  have f0 := (hx 0 _ rfl).trans (List.getElem?_eq_getElem (by omega))
  obtain ⟨y0, r1⟩ := op_step (t := 181) (off := 0) (k := 3) (n := n) r0 opAddr (by kernel_rfl) f0
  have f1 := (hx 1 _ rfl).trans (List.getElem?_eq_getElem (by omega))
  obtain ⟨y1, r2⟩ := op_step (t := 9) (off := 3) (k := 1) (n := n) r1 (op_str Tryz.underlying9) (by kernel_rfl) f1
  have f2 := (hx 2 _ rfl).trans (List.getElem?_eq_getElem (by omega))
  obtain ⟨y2, r3⟩ := op_step (t := 3) (off := 4) (k := 1) (n := n) r2 (op_int Tryz.underlying3) (by kernel_rfl) f2
  have f3 := (hx 3 _ rfl).trans (List.getElem?_eq_getElem (by omega))
  obtain ⟨y3, r4⟩ := op_step (t := 3) (off := 5) (k := 1) (n := n) r3 (op_int Tryz.underlying3) (by kernel_rfl) f3
  rw [List.take_of_length_le (by omega)] at r4
  exact ⟨_, r4⟩
set_option maxRecDepth 100000 in
set_option maxHeartbeats 2000000 in
theorem opLeaseS : OpC Tryz.prog cLeaseS 94 := op_row Tryz.underlying94 (by kernel_rfl) (by rw [show cLease.k = 6 by kernel_rfl]; decide) opLease
set_option maxRecDepth 100000 in
set_option maxHeartbeats 2000000 in
theorem opBook : OpC Tryz.prog cBook 96 := fun H enc W fuel cs x h => by
  obtain ⟨xs, n, _, _, hl, hxl, hx⟩ := DataW.trod_struct Tryz.underlying96 h
  have hl2 : cs.length = 3 := hl.trans (by kernel_rfl)
  have hm : xs.length = 3 := hxl
  have r0 : cNil.rep W 0 (cs.take 0) () := rfl
  have f0 := (hx 0 _ rfl).trans (List.getElem?_eq_getElem (by omega))
  obtain ⟨y0, r1⟩ := op_step (t := 94) (off := 0) (k := 1) (n := n) r0 opLeaseS (by kernel_rfl) f0
  have f1 := (hx 1 _ rfl).trans (List.getElem?_eq_getElem (by omega))
  obtain ⟨y1, r2⟩ := op_step (t := 3) (off := 1) (k := 1) (n := n) r1 (op_int Tryz.underlying3) (by kernel_rfl) f1
  have f2 := (hx 2 _ rfl).trans (List.getElem?_eq_getElem (by omega))
  obtain ⟨y2, r3⟩ := op_step (t := 3) (off := 2) (k := 1) (n := n) r2 (op_int Tryz.underlying3) (by kernel_rfl) f2
  rw [List.take_of_length_le (by omega)] at r3
  exact ⟨_, r3⟩
set_option maxRecDepth 100000 in
set_option maxHeartbeats 2000000 in
theorem opSession : OpC Tryz.prog cSession 190 := fun H enc W fuel cs x h => by
  obtain ⟨xs, n, _, _, hl, hxl, hx⟩ := DataW.trod_struct Tryz.underlying190 h
  have hl2 : cs.length = 4 := hl.trans (by kernel_rfl)
  have hm : xs.length = 4 := hxl
  have r0 : cNil.rep W 0 (cs.take 0) () := rfl
  have f0 := (hx 0 _ rfl).trans (List.getElem?_eq_getElem (by omega))
  obtain ⟨y0, r1⟩ := op_step (t := 3) (off := 0) (k := 1) (n := n) r0 (op_int Tryz.underlying3) (by kernel_rfl) f0
  have f1 := (hx 1 _ rfl).trans (List.getElem?_eq_getElem (by omega))
  obtain ⟨y1, r2⟩ := op_step (t := 3) (off := 1) (k := 1) (n := n) r1 (op_int Tryz.underlying3) (by kernel_rfl) f1
  have f2 := (hx 2 _ rfl).trans (List.getElem?_eq_getElem (by omega))
  obtain ⟨y2, r3⟩ := op_step (t := 9) (off := 2) (k := 1) (n := n) r2 (op_str Tryz.underlying9) (by kernel_rfl) f2
  have f3 := (hx 3 _ rfl).trans (List.getElem?_eq_getElem (by omega))
  obtain ⟨y3, r4⟩ := op_step (t := 3) (off := 3) (k := 1) (n := n) r3 (op_int Tryz.underlying3) (by kernel_rfl) f3
  rw [List.take_of_length_le (by omega)] at r4
  exact ⟨_, r4⟩
set_option maxRecDepth 100000 in
set_option maxHeartbeats 2000000 in
theorem opSessionS : OpC Tryz.prog cSessionS 97 := op_row Tryz.underlying97 (by kernel_rfl) (by rw [show cSession.k = 4 by kernel_rfl]; decide) opSession
set_option maxRecDepth 100000 in
set_option maxHeartbeats 2000000 in
theorem opDesk : OpC Tryz.prog cDesk 99 := fun H enc W fuel cs x h => by
  obtain ⟨xs, n, _, _, hl, hxl, hx⟩ := DataW.trod_struct Tryz.underlying99 h
  have hl2 : cs.length = 2 := hl.trans (by kernel_rfl)
  have hm : xs.length = 2 := hxl
  have r0 : cNil.rep W 0 (cs.take 0) () := rfl
  have f0 := (hx 0 _ rfl).trans (List.getElem?_eq_getElem (by omega))
  obtain ⟨y0, r1⟩ := op_step (t := 97) (off := 0) (k := 1) (n := n) r0 opSessionS (by kernel_rfl) f0
  have f1 := (hx 1 _ rfl).trans (List.getElem?_eq_getElem (by omega))
  obtain ⟨y1, r2⟩ := op_step (t := 3) (off := 1) (k := 1) (n := n) r1 (op_int Tryz.underlying3) (by kernel_rfl) f1
  rw [List.take_of_length_le (by omega)] at r2
  exact ⟨_, r2⟩
set_option maxRecDepth 100000 in
set_option maxHeartbeats 2000000 in
theorem opState : OpC Tryz.prog cState 101 := fun H enc W fuel cs x h => by
  obtain ⟨xs, n, _, _, hl, hxl, hx⟩ := DataW.trod_struct Tryz.underlying101 h
  have hl2 : cs.length = 8 := hl.trans (by kernel_rfl)
  have hm : xs.length = 4 := hxl
  have r0 : cNil.rep W 0 (cs.take 0) () := rfl
  have f0 := (hx 0 _ rfl).trans (List.getElem?_eq_getElem (by omega))
  obtain ⟨y0, r1⟩ := op_step (t := 93) (off := 0) (k := 2) (n := n) r0 opPlan (by kernel_rfl) f0
  have f1 := (hx 1 _ rfl).trans (List.getElem?_eq_getElem (by omega))
  obtain ⟨y1, r2⟩ := op_step (t := 96) (off := 2) (k := 3) (n := n) r1 opBook (by kernel_rfl) f1
  have f2 := (hx 2 _ rfl).trans (List.getElem?_eq_getElem (by omega))
  obtain ⟨y2, r3⟩ := op_step (t := 99) (off := 5) (k := 2) (n := n) r2 opDesk (by kernel_rfl) f2
  have f3 := (hx 3 _ rfl).trans (List.getElem?_eq_getElem (by omega))
  obtain ⟨y3, r4⟩ := op_step (t := 3) (off := 7) (k := 1) (n := n) r3 (op_int Tryz.underlying3) (by kernel_rfl) f3
  rw [List.take_of_length_le (by omega)] at r4
  exact ⟨_, r4⟩
set_option maxRecDepth 100000 in
set_option maxHeartbeats 2000000 in
theorem opFile : OpC Tryz.prog cFile 102 := fun H enc W fuel cs x h => by
  obtain ⟨xs, n, _, _, hl, hxl, hx⟩ := DataW.trod_struct Tryz.underlying102 h
  have hl2 : cs.length = 2 := hl.trans (by kernel_rfl)
  have hm : xs.length = 2 := hxl
  have r0 : cNil.rep W 0 (cs.take 0) () := rfl
  have f0 := (hx 0 _ rfl).trans (List.getElem?_eq_getElem (by omega))
  obtain ⟨y0, r1⟩ := op_step (t := 49) (off := 0) (k := 1) (n := n) r0 opByteS (by kernel_rfl) f0
  have f1 := (hx 1 _ rfl).trans (List.getElem?_eq_getElem (by omega))
  obtain ⟨y1, r2⟩ := op_step (t := 3) (off := 1) (k := 1) (n := n) r1 (op_int Tryz.underlying3) (by kernel_rfl) f1
  rw [List.take_of_length_le (by omega)] at r2
  exact ⟨_, r2⟩
set_option maxRecDepth 100000 in
set_option maxHeartbeats 2000000 in
theorem opReplica : OpC Tryz.prog cReplica 104 := fun H enc W fuel cs x h => by
  obtain ⟨xs, n, _, _, hl, hxl, hx⟩ := DataW.trod_struct Tryz.underlying104 h
  have hl2 : cs.length = 43 := hl.trans (by kernel_rfl)
  have hm : xs.length = 5 := hxl
  have r0 : cNil.rep W 0 (cs.take 0) () := rfl
  have f0 := (hx 0 _ rfl).trans (List.getElem?_eq_getElem (by omega))
  obtain ⟨y0, r1⟩ := op_step (t := 89) (off := 0) (k := 31) (n := n) r0 opServer (by kernel_rfl) f0
  have f1 := (hx 1 _ rfl).trans (List.getElem?_eq_getElem (by omega))
  obtain ⟨y1, r2⟩ := op_step (t := 101) (off := 31) (k := 8) (n := n) r1 opState (by kernel_rfl) f1
  have f2 := (hx 2 _ rfl).trans (List.getElem?_eq_getElem (by omega))
  obtain ⟨y2, r3⟩ := op_step (t := 3) (off := 39) (k := 1) (n := n) r2 (op_int Tryz.underlying3) (by kernel_rfl) f2
  have f3 := (hx 3 _ rfl).trans (List.getElem?_eq_getElem (by omega))
  obtain ⟨y3, r4⟩ := op_step (t := 102) (off := 40) (k := 2) (n := n) r3 opFile (by kernel_rfl) f3
  have f4 := (hx 4 _ rfl).trans (List.getElem?_eq_getElem (by omega))
  obtain ⟨y4, r5⟩ := op_step (t := 4) (off := 42) (k := 1) (n := n) r4 (op_bool Tryz.underlying4) (by kernel_rfl) f4
  rw [List.take_of_length_le (by omega)] at r5
  exact ⟨_, r5⟩
set_option maxRecDepth 100000 in
set_option maxHeartbeats 2000000 in
theorem opReplicaS : OpC Tryz.prog cReplicaS 22 := op_row Tryz.underlying22 (by kernel_rfl) (by rw [show cReplica.k = 43 by kernel_rfl]; decide) opReplica
set_option maxRecDepth 100000 in
set_option maxHeartbeats 2000000 in
theorem opMsg : OpC Tryz.prog cMsg 108 := fun H enc W fuel cs x h => by
  obtain ⟨xs, n, _, _, hl, hxl, hx⟩ := DataW.trod_struct Tryz.underlying108 h
  have hl2 : cs.length = 12 := hl.trans (by kernel_rfl)
  have hm : xs.length = 11 := hxl
  have r0 : cNil.rep W 0 (cs.take 0) () := rfl
  have f0 := (hx 0 _ rfl).trans (List.getElem?_eq_getElem (by omega))
  obtain ⟨y0, r1⟩ := op_step (t := 3) (off := 0) (k := 1) (n := n) r0 (op_int Tryz.underlying3) (by kernel_rfl) f0
  have f1 := (hx 1 _ rfl).trans (List.getElem?_eq_getElem (by omega))
  obtain ⟨y1, r2⟩ := op_step (t := 3) (off := 1) (k := 1) (n := n) r1 (op_int Tryz.underlying3) (by kernel_rfl) f1
  have f2 := (hx 2 _ rfl).trans (List.getElem?_eq_getElem (by omega))
  obtain ⟨y2, r3⟩ := op_step (t := 3) (off := 2) (k := 1) (n := n) r2 (op_int Tryz.underlying3) (by kernel_rfl) f2
  have f3 := (hx 3 _ rfl).trans (List.getElem?_eq_getElem (by omega))
  obtain ⟨y3, r4⟩ := op_step (t := 3) (off := 3) (k := 1) (n := n) r3 (op_int Tryz.underlying3) (by kernel_rfl) f3
  have f4 := (hx 4 _ rfl).trans (List.getElem?_eq_getElem (by omega))
  obtain ⟨y4, r5⟩ := op_step (t := 3) (off := 4) (k := 1) (n := n) r4 (op_int Tryz.underlying3) (by kernel_rfl) f4
  have f5 := (hx 5 _ rfl).trans (List.getElem?_eq_getElem (by omega))
  obtain ⟨y5, r6⟩ := op_step (t := 3) (off := 5) (k := 1) (n := n) r5 (op_int Tryz.underlying3) (by kernel_rfl) f5
  have f6 := (hx 6 _ rfl).trans (List.getElem?_eq_getElem (by omega))
  obtain ⟨y6, r7⟩ := op_step (t := 28) (off := 6) (k := 1) (n := n) r6 opEntryS (by kernel_rfl) f6
  have f7 := (hx 7 _ rfl).trans (List.getElem?_eq_getElem (by omega))
  obtain ⟨y7, r8⟩ := op_step (t := 3) (off := 7) (k := 1) (n := n) r7 (op_int Tryz.underlying3) (by kernel_rfl) f7
  have f8 := (hx 8 _ rfl).trans (List.getElem?_eq_getElem (by omega))
  obtain ⟨y8, r9⟩ := op_step (t := 4) (off := 8) (k := 1) (n := n) r8 (op_bool Tryz.underlying4) (by kernel_rfl) f8
  have f9 := (hx 9 _ rfl).trans (List.getElem?_eq_getElem (by omega))
  obtain ⟨y9, r10⟩ := op_step (t := 49) (off := 9) (k := 1) (n := n) r9 opByteS (by kernel_rfl) f9
  have f10 := (hx 10 _ rfl).trans (List.getElem?_eq_getElem (by omega))
  obtain ⟨y10, r11⟩ := op_step (t := 25) (off := 10) (k := 2) (n := n) r10 opGroup (by kernel_rfl) f10
  rw [List.take_of_length_le (by omega)] at r11
  exact ⟨_, r11⟩
set_option maxRecDepth 100000 in
set_option maxHeartbeats 2000000 in
theorem opMsgS : OpC Tryz.prog cMsgS 26 := op_row Tryz.underlying26 (by kernel_rfl) (by rw [show cMsg.k = 12 by kernel_rfl]; decide) opMsg
set_option maxRecDepth 100000 in
set_option maxHeartbeats 2000000 in
theorem opIntA2 : OpC Tryz.prog cIntA2 129 := op_arr Tryz.underlying129 Tryz.underlying3 (by kernel_rfl) (by kernel_rfl)
set_option maxRecDepth 100000 in
set_option maxHeartbeats 2000000 in
theorem opIntA2S : OpC Tryz.prog cIntA2S 27 := op_row Tryz.underlying27 (by kernel_rfl) (by rw [show cIntA2.k = 2 by kernel_rfl]; decide) opIntA2
set_option maxRecDepth 100000 in
set_option maxHeartbeats 2000000 in
theorem opStringS : OpC Tryz.prog cStringS 29 := op_row Tryz.underlying29 (by kernel_rfl) (by rw [show cStr.k = 1 by kernel_rfl]; decide) (op_str Tryz.underlying9)
set_option maxRecDepth 100000 in
set_option maxHeartbeats 2000000 in
theorem opCluster : OpC Tryz.prog cCluster 31 := fun H enc W fuel cs x h => by
  obtain ⟨xs, n, _, _, hl, hxl, hx⟩ := DataW.trod_struct Tryz.underlying31 h
  have hl2 : cs.length = 8 := hl.trans (by kernel_rfl)
  have hm : xs.length = 7 := hxl
  have r0 : cNil.rep W 0 (cs.take 0) () := rfl
  have f0 := (hx 0 _ rfl).trans (List.getElem?_eq_getElem (by omega))
  obtain ⟨y0, r1⟩ := op_step (t := 22) (off := 0) (k := 1) (n := n) r0 opReplicaS (by kernel_rfl) f0
  have f1 := (hx 1 _ rfl).trans (List.getElem?_eq_getElem (by omega))
  obtain ⟨y1, r2⟩ := op_step (t := 25) (off := 1) (k := 2) (n := n) r1 opGroup (by kernel_rfl) f1
  have f2 := (hx 2 _ rfl).trans (List.getElem?_eq_getElem (by omega))
  obtain ⟨y2, r3⟩ := op_step (t := 26) (off := 3) (k := 1) (n := n) r2 opMsgS (by kernel_rfl) f2
  have f3 := (hx 3 _ rfl).trans (List.getElem?_eq_getElem (by omega))
  obtain ⟨y3, r4⟩ := op_step (t := 27) (off := 4) (k := 1) (n := n) r3 opIntA2S (by kernel_rfl) f3
  have f4 := (hx 4 _ rfl).trans (List.getElem?_eq_getElem (by omega))
  obtain ⟨y4, r5⟩ := op_step (t := 28) (off := 5) (k := 1) (n := n) r4 opEntryS (by kernel_rfl) f4
  have f5 := (hx 5 _ rfl).trans (List.getElem?_eq_getElem (by omega))
  obtain ⟨y5, r6⟩ := op_step (t := 29) (off := 6) (k := 1) (n := n) r5 opStringS (by kernel_rfl) f5
  have f6 := (hx 6 _ rfl).trans (List.getElem?_eq_getElem (by omega))
  obtain ⟨y6, r7⟩ := op_step (t := 4) (off := 7) (k := 1) (n := n) r6 (op_bool Tryz.underlying4) (by kernel_rfl) f6
  rw [List.take_of_length_le (by omega)] at r7
  exact ⟨_, r7⟩

end Go.Proofs.YtjiplphfpkhmpaaGreat
