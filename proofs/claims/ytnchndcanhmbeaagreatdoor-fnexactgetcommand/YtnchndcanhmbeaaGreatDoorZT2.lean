/-
  What getCommand_card needs, part 2.
-/
import Derived.Test.YtnchndcanhmbeaaGreatDoorZT1
import Derived.Test.YtnchndcanhmbeaaGreatDoorCByt
import Derived.RegionTactic
import Derived.Deep.RegionHeld3
import Derived.Maps.AppendAt
import Derived.Laws.BytesString
import Derived.Laws.Cells
import Derived.Deep.AppendLies
import Derived.Test.YtnchndcanhmbeaaGreatDoorGCmd
import Derived.Test.YtnchndcanhmbeaaGreatDoorBSHi
import Derived.Test.YtnchndcanhmbeaaGreatDoorAOk
import Derived.Deep.RegionWith
import Derived.Defers
import Derived.Recover
namespace Go.Proofs.YtnchndcanhmbeaaGreatDoor
open Go.RowKit

/-- Block R holds a reader over the bytes zs, at the place at. -/
structure Rdr (w : World) (R : Nat) (a : Option Addr) (n cap : Nat) (zs : List Int) (at' : Nat) : Prop where
  row : w.cell? ⟨R, 0, none⟩ = some (.slice a n cap)
  idx : w.cell? ⟨R, 1, none⟩ = some (.int .i64 at')
  frz : w.frozen? ⟨R, 1, none⟩ = false
  le : at' ≤ n
  len : zs.length = n
  ncap : n ≤ cap
  few : n ≤ 1000000000000 ∧ cap ≤ 9223372036854775807
  byt : ∀ j, j < n → ∃ p o z, a = some ⟨p, o, none⟩ ∧ p < R ∧ w.cell? ⟨p, o + j, none⟩ = some (.int .u8 z) ∧ zs[j]? = some z

theorem Rdr.lt {w : World} {R : Nat} {a : Option Addr} {n cap at' : Nat} {zs : List Int} (h : Rdr w R a n cap zs at') : R < w.heap.size := World.block_lt_of_cell? w _ h.row
theorem Rdr.drew {w : World} {R : Nat} {a : Option Addr} {n cap at' : Nat} {zs : List Int} (h : Rdr w R a n cap zs at') : Rdr w.drew R a n cap zs at' :=
  ⟨h.row, h.idx, h.frz, h.le, h.len, h.ncap, h.few, h.byt⟩
theorem Rdr.set {w : World} {R : Nat} {a : Option Addr} {n cap at' : Nat} {zs : List Int} (h : Rdr w R a n cap zs at') (k : Nat) (hk : k ≤ n) (z : Int) (hz : z = (k : Int)) : Rdr (w.setCell ⟨R, 1, none⟩ (.int .i64 z)) R a n cap zs k := by
  subst hz
  refine ⟨?_, ?_, ?_, hk, h.len, h.ncap, h.few, fun j hj => ?_⟩
  · simp [go_sem, h.row]
  · simp [go_sem, h.idx]
  · simp [go_sem, h.frz]
  · obtain ⟨p, o, v, ha, hp, hv, hz⟩ := h.byt j hj
    exact ⟨p, o, v, ha, hp, (World.cell?_setCell_far _ _ _ _ (by show R ≠ p; omega)).trans hv, hz⟩
/-- The reader behind what only makes memory. -/
theorem Rdr.later {w w' : World} {R : Nat} {a : Option Addr} {n cap at' : Nat} {zs : List Int} (h : Rdr w R a n cap zs at') (b : Below w.heap.size w w') : Rdr w' R a n cap zs at' := by
  have hR := h.lt
  refine ⟨(b.cell (p := ⟨R, 0, none⟩) hR).trans h.row, (b.cell (p := ⟨R, 1, none⟩) hR).trans h.idx, (b.frozen (p := ⟨R, 1, none⟩) hR).trans h.frz, h.le, h.len, h.ncap, h.few, fun j hj => ?_⟩
  obtain ⟨p, o, v, ha, hp, hv, hz⟩ := h.byt j hj
  exact ⟨p, o, v, ha, hp, (b.cell (p := ⟨p, o + j, none⟩) (Nat.lt_trans hp hR)).trans hv, hz⟩
theorem gr_set' {w w' : World} {g : Nat} (h : w.grownBy w' (some g)) (j : Nat) (v : Value) : w.grownBy (w'.setCell ⟨g, j, none⟩ v) (some g) :=
  h.trans ⟨rfl, rfl, rfl, by simp, fun k _ hk => Below.heap_setCell w' ⟨g, j, none⟩ v k (fun e => hk (by rw [e]))⟩
theorem gr_drew' {w w' : World} {r : Option Nat} (h : w.grownBy w' r) : w.grownBy w'.drew r := h.trans ⟨rfl, rfl, rfl, Nat.le_refl _, fun _ _ _ => rfl⟩
theorem gr_below {w w' X : World} {R : Nat} (h : w.grownBy w' (some R)) (b : Below w'.heap.size w' X) : w.grownBy X (some R) :=
  h.trans ⟨b.os, b.tape, b.output, b.size, fun k hk _ => b.block k hk⟩

/-- The c bytes from the place at on lie from a' on, below block R. -/
def Cut (w : World) (R : Nat) (a' : Option Addr) (c : Nat) (zs : List Int) (at' : Nat) : Prop := ∀ j, j < c → ∃ p o z, a' = some ⟨p, o, none⟩ ∧ p < R ∧ w.cell? ⟨p, o + j, none⟩ = some (.int .u8 z) ∧ zs[at' + j]? = some z
theorem Rdr.cut {w : World} {R : Nat} {a : Option Addr} {n cap at' : Nat} {zs : List Int} (h : Rdr w R a n cap zs at') (k c : Nat) (hk : k + c ≤ n) : Cut w R (a.map fun x => x.add k) c zs k := fun j hj => by
  obtain ⟨p, o, z, ha, hp, hv, hz⟩ := h.byt (k + j) (by omega)
  subst ha
  refine ⟨p, o + k, z, ?_, hp, by rw [Nat.add_assoc]; exact hv, hz⟩
  simp [Addr.add_lit]

set_option maxRecDepth 10000 in
set_option maxHeartbeats 2000000 in
theorem take_torn (R : Nat) (a : Option Addr) (n cap at' : Nat) (zs : List Int) (c : Nat) (w : World) (h : Rdr w R a n cap zs at') (hc : c ≤ 9223372036854775807) (hlt : n < at' + c) :
    Calls Tryz.prog 63 #[.pointer (some ⟨R, 0, none⟩), .int .i64 c] w fun e w' => e = .panicked [{ v := .iface 92 (.int .i64 2), recovered := false }] ∧ w.grownBy w' (some R) := by
  have c0 := h.row
  have c1 := h.idx
  have hle := h.le
  have hnc := h.ncap
  obtain ⟨hfe, hfe2⟩ := h.few
  have d1 : decide ((n : Int) - (at' : Int) < (c : Int)) = true := decide_eq_true (by omega)
  clear h
  go_enter Tryz.func63, Tryz.ntmps63
  go_wp2_with fail
  go_region
  all_goals
    go_wp2_with fail
    exact ⟨rfl, rfl, gr_drew' (World.grownBy.refl _ _)⟩

set_option maxRecDepth 10000 in
set_option maxHeartbeats 2000000 in
theorem take_ok2 (R : Nat) (a : Option Addr) (n cap at' : Nat) (zs : List Int) (c : Nat) (w : World) (h : Rdr w R a n cap zs at') (hle : at' + c ≤ n) :
    Calls Tryz.prog 63 #[.pointer (some ⟨R, 0, none⟩), .int .i64 c] w fun e w' => ∃ a' c', e = .returned (.slice a' c c') ∧ (a' = none → a = none) ∧ c ≤ c' ∧ c' ≤ cap ∧ Cut w' R a' c zs at' ∧ Rdr w' R a n cap zs (at' + c) ∧ w.grownBy w' (some R) := by
  have c0 := h.row
  have c1 := h.idx
  have f1 := h.frz
  have hnc := h.ncap
  obtain ⟨hfe, hfe2⟩ := h.few
  have HR := hid' h
  have d1 : decide ((n : Int) - (at' : Int) < (c : Int)) = false := decide_eq_false (by omega)
  have HLE := hid' hle
  clear h
  go_enter Tryz.func63, Tryz.ntmps63
  go_wp2_with fail
  go_region
  all_goals
    go_wp2_with fail
  all_goals
    go_region
  all_goals
    go_wp2_with fail
  · refine bodyPost_ret (v := .slice a c 0) (by simp [results, Tryz.results63, go_sem]) rfl ?_
    have e0 : c = 0 := by omega
    subst e0
    refine ⟨a, 0, rfl, fun h => h, Nat.le_refl _, Nat.zero_le _, fun j hj => absurd hj (Nat.not_lt_zero j), ?_, gr_drew' (gr_drew' (gr_set' (World.grownBy.refl _ _) _ _))⟩
    have q := HR.out.set (at' + 0) (by omega) ((at' : Int) + (0 : Nat)) (by omega)
    have ec : cap = at' := by omega
    rw [ec] at q
    exact q.drew.drew
  · refine bodyPost_ret (v := .slice (a.map fun x => x.add at') c (cap - at')) (by simp [results, Tryz.results63, go_sem]) rfl ?_
    have HR2 := (HR.out.set (at' + c) (by omega) ((at' : Int) + c) (by omega)).drew.drew
    exact ⟨_, _, rfl, fun h => by cases a with | none => rfl | some _ => simp at h, by have := HR.out.ncap; have := HLE.out; omega, Nat.sub_le _ _, HR2.cut at' c HLE.out, HR2, gr_drew' (gr_drew' (gr_set' (World.grownBy.refl _ _) _ _))⟩

theorem take_ok (R : Nat) (a : Option Addr) (n cap at' : Nat) (zs : List Int) (c : Nat) (w : World) (h : Rdr w R a n cap zs at') (hle : at' + c ≤ n) :
    Calls Tryz.prog 63 #[.pointer (some ⟨R, 0, none⟩), .int .i64 c] w fun e w' => ∃ a' c', e = .returned (.slice a' c c') ∧ c ≤ c' ∧ c' ≤ cap ∧ Cut w' R a' c zs at' ∧ Rdr w' R a n cap zs (at' + c) ∧ w.grownBy w' (some R) :=
  (take_ok2 R a n cap at' zs c w h hle).mono fun _ _ ⟨a', c', h1, _, h3⟩ => ⟨a', c', h1, h3⟩

end Go.Proofs.YtnchndcanhmbeaaGreatDoor
namespace Go.Proofs.YtnchndcanhmbeaaGreatDoor
open Go.RowKit

inductive Got where
  | good (x : Int) (k : Nat)
  | torn
  | bad

def acc (x c : Int) (k : Nat) : Int := bits .or .u64 x (IntKind.u64.wrap (c % 128 * 2 ^ (7 * k)))
def rdF (zs : List Int) (at' : Nat) : Nat → Nat → Int → Got
  | 0, _, _ => .bad
  | f + 1, k, x => match zs[at' + k]? with
    | none => .torn
    | some c => if 128 ≤ c then rdF zs at' f (k + 1) (acc x c k) else if (c = 0 ∧ 0 < k) ∨ (k = 9 ∧ 1 < c) then .bad else .good (acc x c k) (k + 1)
def rdN (zs : List Int) (at' : Nat) : Got := rdF zs at' 10 0 0

theorem rdF_none {zs : List Int} {at' f k : Nat} {x : Int} (h : zs[at' + k]? = none) : rdF zs at' (f + 1) k x = .torn := by rw [rdF, h]
theorem rdF_more {zs : List Int} {at' f k : Nat} {x c : Int} (h : zs[at' + k]? = some c) (hc : 128 ≤ c) : rdF zs at' (f + 1) k x = rdF zs at' f (k + 1) (acc x c k) := by
  rw [rdF, h]; simp only; rw [if_pos hc]
theorem rdF_bad {zs : List Int} {at' f k : Nat} {x c : Int} (h : zs[at' + k]? = some c) (hc : ¬ 128 ≤ c) (hb : (c = 0 ∧ 0 < k) ∨ (k = 9 ∧ 1 < c)) : rdF zs at' (f + 1) k x = .bad := by
  rw [rdF, h]; simp only; rw [if_neg hc, if_pos hb]
theorem rdF_good {zs : List Int} {at' f k : Nat} {x c : Int} (h : zs[at' + k]? = some c) (hc : ¬ 128 ≤ c) (hb : ¬ ((c = 0 ∧ 0 < k) ∨ (k = 9 ∧ 1 < c))) : rdF zs at' (f + 1) k x = .good (acc x c k) (k + 1) := by
  rw [rdF, h]; simp only; rw [if_neg hc, if_neg hb]

theorem acc_9 (x : Int) : acc x 1 9 = bits .or .u64 x 9223372036854775808 := by
  unfold acc; rw [IntKind.wrap_u64]; rfl

/-- What GetNum answers. -/
def gnV (zs : List Int) (a : Int) : Value := if a < 0 then .tuple #[.int .i64 0, .int .i64 0, .bool false] else match rdN zs a.toNat with
  | .good x k => .tuple #[.int .i64 (wrap64 x), .int .i64 (a + k), .bool true]
  | _ => .tuple #[.int .i64 0, .int .i64 0, .bool false]
theorem gnV_neg {zs : List Int} {a : Int} (h : a < 0) : gnV zs a = .tuple #[.int .i64 0, .int .i64 0, .bool false] := by unfold gnV; rw [if_pos h]
theorem gnV_good {zs : List Int} {at' : Nat} {x : Int} {k : Nat} (e : rdN zs at' = .good x k) : gnV zs (at' : Int) = .tuple #[.int .i64 (wrap64 x), .int .i64 ((at' : Int) + k), .bool true] := by
  unfold gnV; rw [if_neg (by omega), Int.toNat_natCast, e]
theorem gnV_torn {zs : List Int} {at' : Nat} (e : rdN zs at' = .torn) : gnV zs (at' : Int) = .tuple #[.int .i64 0, .int .i64 0, .bool false] := by
  unfold gnV; rw [if_neg (by omega), Int.toNat_natCast, e]
theorem gnV_bad {zs : List Int} {at' : Nat} (e : rdN zs at' = .bad) : gnV zs (at' : Int) = .tuple #[.int .i64 0, .int .i64 0, .bool false] := by
  unfold gnV; rw [if_neg (by omega), Int.toNat_natCast, e]

set_option maxRecDepth 10000 in
set_option maxHeartbeats 4000000 in
theorem sGetNum_any (a : Option Addr) (cap : Nat) (zs : List Int) (at' : Nat) (w : World) (hB : Byt w a zs) (ho : Oct zs) (hl : zs.length ≤ 9000000000) (ha : at' ≤ 9223372036854775807) :
    Calls Tryz.prog 51 #[.slice a zs.length cap, .int .i64 at'] w fun e w' => e = .returned (gnV zs at') ∧ w = w' := by
  obtain ⟨n, hn⟩ : ∃ n, n = zs.length := ⟨_, rfl⟩
  rw [← hn] at hl ⊢
  have HN := hid' hn
  have HB := hid' hB
  have HO := hid' ho
  clear hB hn ho
  generalize hV : gnV zs at' = V
  have HV := hid' hV
  clear hV
  go_enter Tryz.func51, Tryz.ntmps51
  go_wp2
  go_loop [7, 8] (fun t7 t8 => ∃ (k : Nat) (x : Int), k ≤ 10 ∧ t8 = .int .i64 k ∧ t7 = .int .u64 x ∧ rdF zs at' (10 - k) k x = rdN zs at') (fun _ t8 => 10 - (intOf t8).toNat)
  case atStart => exact ⟨0, 0, by omega, rfl, rfl, rfl⟩
  case round =>
    obtain ⟨k, x, hk, rfl, rfl, hr⟩ := hrel
    have HR := hid' hr
    clear hr
    by_cases h10 : k < 10
    · obtain ⟨f, hf⟩ : ∃ f, 10 - k = f + 1 := ⟨9 - k, by omega⟩
      by_cases hin : at' + k < n
      · have han : at' < n := by omega
        obtain ⟨p, o, c, rfl, hp, hc, hz⟩ := HB.out (at' + k) (by rw [← HN.out]; exact hin)
        obtain ⟨z0, z1⟩ := HO.out c (List.mem_of_getElem? hz)
        have HZ := hid' hz
        have i1 : (at' : Int) + (k : Int) < (n : Int) := by omega
        have hcc : w.cell? ⟨p, o + (at' + k), none⟩ = some (.int .u8 c) := hc
        clear hc hz hin
        by_cases h9 : k = 9
        · subst h9
          have hf0 : f = 0 := by omega
          subst hf0
          by_cases h1 : 1 < c
          · have HE : Hid (V = .tuple #[.int .i64 0, .int .i64 0, .bool false]) := by
              unfold Hid; rw [← HV.out]; refine gnV_bad ?_
              rw [← HR.out, hf]
              by_cases h128 : 128 ≤ c
              · rw [rdF_more HZ.out h128]; rfl
              · exact rdF_bad HZ.out h128 (Or.inr ⟨rfl, h1⟩)
            go_wp2
            refine bodyPost_ret (v := .tuple #[.int .i64 0, .int .i64 0, .bool false]) (by simp [results, Tryz.results51, go_sem]) rfl ⟨by rw [HE.out], rfl⟩
          · by_cases hc0 : c = 0
            · subst hc0
              have HE : Hid (V = .tuple #[.int .i64 0, .int .i64 0, .bool false]) := by
                unfold Hid; rw [← HV.out]; refine gnV_bad ?_
                rw [← HR.out, hf]
                exact rdF_bad HZ.out (by omega) (Or.inl ⟨rfl, by omega⟩)
              go_wp2
              refine bodyPost_ret (v := .tuple #[.int .i64 0, .int .i64 0, .bool false]) (by simp [results, Tryz.results51, go_sem]) rfl ⟨by rw [HE.out], rfl⟩
            · have hc1 : c = 1 := by omega
              subst hc1
              have HE : Hid (V = .tuple #[.int .i64 (wrap64 (bits .or .u64 x 9223372036854775808)), .int .i64 ((at' : Int) + (10 : Nat)), .bool true]) := by
                unfold Hid; rw [← HV.out, ← acc_9]; refine gnV_good ?_
                rw [← HR.out, hf]
                exact rdF_good HZ.out (by omega) (by omega)
              have e10 : (at' : Int) + 9 + 1 = (at' : Int) + (10 : Nat) := by omega
              have E10 := hid' e10
              clear e10 hc0 h1
              go_wp2
              refine bodyPost_ret (v := .tuple #[.int .i64 (wrap64 (bits .or .u64 x 9223372036854775808)), .int .i64 ((at' : Int) + 9 + 1), .bool true]) (by simp [results, Tryz.results51, go_sem]) rfl ⟨by rw [HE.out, E10.out], rfl⟩
        · have b9 : ((k : Int) == 9) = false := by rw [beq_eq_false_iff_ne]; omega
          have hk9 : k < 9 := by omega
          have hf1 : 10 - (k + 1) = f := by omega
          have HF := hid' hf
          have HF1 := hid' hf1
          clear h9 hf hf1
          by_cases h128 : 128 ≤ c
          · have HE : Hid (rdF zs at' (10 - (k + 1)) (k + 1) (acc x c k) = rdN zs at') := by
              unfold Hid; rw [← HR.out, HF.out, HF1.out, rdF_more HZ.out h128]
            go_wp2
            go_round
            case rel => exact ⟨k + 1, _, by omega, by go_num, rfl, HE.out⟩
            case measure => simp [intOf]; omega
          · by_cases h0 : c = 0 ∧ 0 < k
            · obtain ⟨rfl, hk0⟩ := h0
              have HE : Hid (V = .tuple #[.int .i64 0, .int .i64 0, .bool false]) := by
                unfold Hid; rw [← HV.out]; refine gnV_bad ?_
                rw [← HR.out, HF.out]
                exact rdF_bad HZ.out (by omega) (Or.inl ⟨rfl, hk0⟩)
              go_wp2
              refine bodyPost_ret (v := .tuple #[.int .i64 0, .int .i64 0, .bool false]) (by simp [results, Tryz.results51, go_sem]) rfl ⟨by rw [HE.out], rfl⟩
            · have HE : Hid (V = .tuple #[.int .i64 (wrap64 (acc x c k)), .int .i64 ((at' : Int) + ((k + 1 : Nat) : Int)), .bool true]) := by
                unfold Hid; rw [← HV.out]; refine gnV_good ?_
                rw [← HR.out, HF.out]
                exact rdF_good HZ.out (by omega) (by omega)
              have E10 := hid' (show (at' : Int) + (k : Int) + 1 = (at' : Int) + ((k + 1 : Nat) : Int) by omega)
              have HAC : Hid (acc x c k = bits .or .u64 x (IntKind.u64.wrap (c % 128 * 2 ^ (7 * k)))) := rfl
              by_cases hk0 : 0 < k
              · have hcb : (c == 0) = false := by rw [beq_eq_false_iff_ne]; exact fun e => h0 ⟨e, hk0⟩
                clear h0
                go_wp2
                refine bodyPost_ret (v := .tuple #[.int .i64 (wrap64 (bits .or .u64 x (IntKind.u64.wrap (c % 128 * 2 ^ (7 * k))))), .int .i64 ((at' : Int) + (k : Int) + 1), .bool true]) (by simp [results, Tryz.results51, go_sem]) rfl ⟨by rw [HE.out, E10.out, HAC.out], rfl⟩
              · have dk : decide ((0 : Int) < (k : Int)) = false := decide_eq_false (by omega)
                clear h0
                go_wp2
                refine bodyPost_ret (v := .tuple #[.int .i64 (wrap64 (bits .or .u64 x (IntKind.u64.wrap (c % 128 * 2 ^ (7 * k))))), .int .i64 ((at' : Int) + (k : Int) + 1), .bool true]) (by simp [results, Tryz.results51, go_sem]) rfl ⟨by rw [HE.out, E10.out, HAC.out], rfl⟩
      · have hz : zs[at' + k]? = none := List.getElem?_eq_none (by have := HN.out; omega)
        have HE : Hid (V = .tuple #[.int .i64 0, .int .i64 0, .bool false]) := by
          unfold Hid; rw [← HV.out]; refine gnV_torn ?_
          rw [← HR.out, hf]; exact rdF_none hz
        clear hz
        by_cases han : at' < n
        · go_wp2
          refine bodyPost_ret (v := .tuple #[.int .i64 0, .int .i64 0, .bool false]) (by simp [results, Tryz.results51, go_sem]) rfl ⟨by rw [HE.out], rfl⟩
        · have dn : decide ((at' : Int) < (n : Int)) = false := decide_eq_false (by omega)
          go_wp2
          refine bodyPost_ret (v := .tuple #[.int .i64 0, .int .i64 0, .bool false]) (by simp [results, Tryz.results51, go_sem]) rfl ⟨by rw [HE.out], rfl⟩
    · have HE : Hid (V = .tuple #[.int .i64 0, .int .i64 0, .bool false]) := by
        unfold Hid; rw [← HV.out]; refine gnV_bad ?_
        rw [← HR.out, show 10 - k = 0 from by omega]; rfl
      go_wp2
      refine bodyPost_ret (v := .tuple #[.int .i64 0, .int .i64 0, .bool false]) (by simp [results, Tryz.results51, go_sem]) rfl ⟨by rw [HE.out], rfl⟩

end Go.Proofs.YtnchndcanhmbeaaGreatDoor
namespace Go.Proofs.YtnchndcanhmbeaaGreatDoor
open Go.RowKit

def endB (c : Int) (k : Nat) : Bool := !(decide ((c = 0 ∧ 0 < k) ∨ (k = 9 ∧ 1 < c)))
theorem endB_t {c : Int} {k : Nat} (h : ¬ ((c = 0 ∧ 0 < k) ∨ (k = 9 ∧ 1 < c))) : endB c k = true := by unfold endB; rw [decide_eq_false h]; rfl
theorem endB_f {c : Int} {k : Nat} (h : (c = 0 ∧ 0 < k) ∨ (k = 9 ∧ 1 < c)) : endB c k = false := by unfold endB; rw [decide_eq_true h]; rfl

set_option maxRecDepth 10000 in
set_option maxHeartbeats 1000000 in
theorem endsNum_any (c : Int) (k : Nat) (w : World) (hk : k ≤ 9) (c0 : 0 ≤ c) (c1 : c ≤ 255) :
    Calls Tryz.prog 64 #[.int .u8 c, .int .i64 k] w fun e w' => e = .returned (.bool (endB c k)) ∧ w = w' := by
  by_cases hc : c = 0
  · subst hc
    by_cases hk0 : 0 < k
    · rw [endB_f (Or.inl ⟨rfl, hk0⟩)]
      go_enter Tryz.func64, Tryz.ntmps64
      go_wp2
      go_ret
      exact ⟨rfl, rfl⟩
    · have e0 : k = 0 := by omega
      subst e0
      rw [endB_t (by omega)]
      go_enter Tryz.func64, Tryz.ntmps64
      go_wp2
      go_ret
      exact ⟨rfl, rfl⟩
  · have hcb : (c == 0) = false := by rw [beq_eq_false_iff_ne]; exact hc
    by_cases h9 : k = 9
    · subst h9
      by_cases h1 : 1 < c
      · rw [endB_f (Or.inr ⟨rfl, h1⟩)]
        have hd : decide (c ≤ 1) = false := decide_eq_false (by omega)
        clear hc
        go_enter Tryz.func64, Tryz.ntmps64
        go_wp2
        go_ret
        exact ⟨rfl, rfl⟩
      · rw [endB_t (by omega)]
        have h1' : c ≤ 1 := by omega
        clear hc h1
        go_enter Tryz.func64, Tryz.ntmps64
        go_wp2
        go_ret
        exact ⟨rfl, rfl⟩
    · rw [endB_t (by omega)]
      have h9' : k < 9 := by omega
      clear hc h9
      go_enter Tryz.func64, Tryz.ntmps64
      go_wp2
      go_ret
      exact ⟨rfl, rfl⟩

/-- How a reading of a number out of a reader ends. -/
def NumEnd (w : World) (R : Nat) (a : Option Addr) (n cap : Nat) (zs : List Int) (at' : Nat) (e : Ending) (w' : World) : Prop :=
  ((∃ x k, rdN zs at' = .good x k ∧ e = .returned (.int .i64 (wrap64 x)) ∧ Rdr w' R a n cap zs (at' + k)) ∨ (rdN zs at' = .torn ∧ e = .panicked [{ v := .iface 92 (.int .i64 2), recovered := false }]) ∨ (rdN zs at' = .bad ∧ e = .panicked [{ v := .iface 92 (.int .i64 3), recovered := false }])) ∧ w.grownBy w' (some R)

set_option maxRecDepth 10000 in
set_option maxHeartbeats 4000000 in
theorem numR_any (R : Nat) (a : Option Addr) (n cap at' : Nat) (zs : List Int) (w : World) (h : Rdr w R a n cap zs at') (ho : Oct zs) :
    Calls Tryz.prog 55 #[.pointer (some ⟨R, 0, none⟩)] w fun e w' => NumEnd w R a n cap zs at' e w' := by
  have HR := hid' h
  have HO := hid' ho
  obtain ⟨hfe, hfe2⟩ := h.few
  have hnc := h.ncap
  have hlen := h.len
  clear h ho
  go_enter Tryz.func55, Tryz.ntmps55
  go_wp2_with fail
  go_loopw [3, 6] (fun t3 t6 wr => ∃ (k : Nat) (x : Int), k ≤ 10 ∧ t6 = .int .i64 k ∧ t3 = .int .u64 x ∧ rdF zs at' (10 - k) k x = rdN zs at' ∧ Rdr wr R a n cap zs (at' + k) ∧ w.grownBy wr (some R)) (fun _ t6 _ => 10 - (intOf t6).toNat)
  case atStart => exact ⟨0, 0, by omega, rfl, rfl, rfl, HR.out, World.grownBy.refl _ _⟩
  case round =>
    obtain ⟨k, x, hk, rfl, rfl, hr, hrd, hgr⟩ := hrel
    have HRF := hid' hr
    have HRD := hid' hrd
    have HG := hid' hgr
    have hle := hrd.le
    clear hr hrd hgr
    by_cases h10 : k < 10
    · obtain ⟨f, hf⟩ : ∃ f, 10 - k = f + 1 := ⟨9 - k, by omega⟩
      have HF := hid' hf
      have HF1 := hid' (show 10 - (k + 1) = f by omega)
      clear hf
      by_cases hin : at' + k < n
      · go_wp2_with fail
        refine (take_ok R a n cap (at' + k) zs 1 wr HRD.out (by omega)).mono ?_
        rintro e w1 ⟨a1, c1, rfl, hc1, hc2, hcut, hrd1, hg1⟩
        obtain ⟨p, o, c, rfl, hp, hcell, hz⟩ := hcut 0 (by omega)
        obtain ⟨z0, z1⟩ := HO.out c (List.mem_of_getElem? hz)
        have HZ : Hid (zs[at' + k]? = some c) := by unfold Hid; simpa using hz
        have hcell' : w1.cell? ⟨p, o, none⟩ = some (.int .u8 c) := by simpa using hcell
        have HRD1 : Hid (Rdr w1 R a n cap zs (at' + (k + 1))) := hrd1
        have HG1 := hid' (HG.out.trans hg1)
        clear hcut hz hcell hrd1 hg1
        by_cases h128 : 128 ≤ c
        · have HE : Hid (rdF zs at' (10 - (k + 1)) (k + 1) (acc x c k) = rdN zs at') := by
            unfold Hid; rw [← HRF.out, HF.out, HF1.out, rdF_more HZ.out h128]
          go_wp2_with fail
          go_roundw
          case rel => exact ⟨k + 1, _, by omega, by go_num, rfl, HE.out, HRD1.out, HG1.out⟩
          case measure => simp [intOf]; omega
        · by_cases hb : (c = 0 ∧ 0 < k) ∨ (k = 9 ∧ 1 < c)
          · have HE : Hid (rdN zs at' = .bad) := by unfold Hid; rw [← HRF.out, HF.out]; exact rdF_bad HZ.out h128 hb
            have HB := hid' (endB_f hb)
            clear hb
            go_wp2_with fail
            refine (endsNum_any c k w1 (by omega) z0 z1).mono ?_
            rw [HB.out]
            rintro e w2 ⟨rfl, rfl⟩
            go_wp2_with fail
            exact ⟨rfl, Or.inr (Or.inr ⟨HE.out, rfl⟩), HG1.out⟩
          · have HE : Hid (rdN zs at' = .good (acc x c k) (k + 1)) := by unfold Hid; rw [← HRF.out, HF.out]; exact rdF_good HZ.out h128 hb
            have HB := hid' (endB_t hb)
            clear hb
            go_wp2_with fail
            refine (endsNum_any c k w1 (by omega) z0 z1).mono ?_
            rw [HB.out]
            rintro e w2 ⟨rfl, rfl⟩
            go_wp2_with fail
            go_ret
            exact ⟨Or.inl ⟨_, _, HE.out, rfl, HRD1.out⟩, HG1.out⟩
      · have HE : Hid (rdN zs at' = .torn) := by unfold Hid; rw [← HRF.out, HF.out]; exact rdF_none (List.getElem?_eq_none (by omega))
        go_wp2_with fail
        refine (take_torn R a n cap (at' + k) zs 1 wr HRD.out (by omega) (by omega)).mono ?_
        rintro e w1 ⟨rfl, hg1⟩
        have HG1 := hid' (HG.out.trans hg1)
        clear hg1
        go_wp2_with fail
        exact ⟨rfl, Or.inr (Or.inl ⟨HE.out, rfl⟩), HG1.out⟩
    · have HE : Hid (rdN zs at' = .bad) := by unfold Hid; rw [← HRF.out, show 10 - k = 0 from by omega]; rfl
      go_wp2_with fail
      exact ⟨rfl, Or.inr (Or.inr ⟨HE.out, rfl⟩), HG.out⟩

/-- How a reading of a count ends. -/
def CntEnd (most : Int) (w : World) (R : Nat) (a : Option Addr) (n cap : Nat) (zs : List Int) (at' : Nat) (e : Ending) (w' : World) : Prop :=
  ((∃ x k, rdN zs at' = .good x k ∧ 0 ≤ wrap64 x ∧ wrap64 x ≤ most ∧ e = .returned (.int .i64 (wrap64 x)) ∧ Rdr w' R a n cap zs (at' + k)) ∨ (rdN zs at' = .torn ∧ e = .panicked [{ v := .iface 92 (.int .i64 2), recovered := false }]) ∨ ((rdN zs at' = .bad ∨ ∃ x k, rdN zs at' = .good x k ∧ ¬ (0 ≤ wrap64 x ∧ wrap64 x ≤ most)) ∧ e = .panicked [{ v := .iface 92 (.int .i64 3), recovered := false }])) ∧ w.grownBy w' (some R)

set_option maxRecDepth 10000 in
set_option maxHeartbeats 4000000 in
theorem count_any (most : Int) (R : Nat) (a : Option Addr) (n cap at' : Nat) (zs : List Int) (w : World) (h : Rdr w R a n cap zs at') (ho : Oct zs) :
    Calls Tryz.prog 66 #[.pointer (some ⟨R, 0, none⟩), .int .i64 most] w fun e w' => CntEnd most w R a n cap zs at' e w' := by
  have HR := hid' h
  have HO := hid' ho
  clear h ho
  go_enter Tryz.func66, Tryz.ntmps66
  go_wp2_with fail
  refine (numR_any R a n cap at' zs w HR.out HO.out).mono ?_
  rintro e w1 ⟨⟨x, k, hg, rfl, hrd⟩ | ⟨hg, rfl⟩ | ⟨hg, rfl⟩, hgr⟩
  · have HG := hid' hg
    have HRD := hid' hrd
    have HGR := hid' hgr
    clear hg hrd hgr
    generalize hy : wrap64 x = y
    have HY := hid' hy
    clear hy
    by_cases h0 : 0 ≤ y
    · by_cases h1 : y ≤ most
      · go_wp2_with fail
        go_ret
        exact ⟨Or.inl ⟨x, k, HG.out, by rw [HY.out]; exact h0, by rw [HY.out]; exact h1, by rw [HY.out]; rfl, HRD.out⟩, HGR.out⟩
      · go_wp2_with fail
        exact ⟨rfl, Or.inr (Or.inr ⟨Or.inr ⟨x, k, HG.out, by rw [HY.out]; omega⟩, rfl⟩), HGR.out⟩
    · go_wp2_with fail
      exact ⟨rfl, Or.inr (Or.inr ⟨Or.inr ⟨x, k, HG.out, by rw [HY.out]; omega⟩, rfl⟩), HGR.out⟩
  · have HG := hid' hg
    have HGR := hid' hgr
    clear hg hgr
    go_wp2_with fail
    exact ⟨rfl, Or.inr (Or.inl ⟨HG.out, rfl⟩), HGR.out⟩
  · have HG := hid' hg
    have HGR := hid' hgr
    clear hg hgr
    go_wp2_with fail
    exact ⟨rfl, Or.inr (Or.inr ⟨Or.inl HG.out, rfl⟩), HGR.out⟩

end Go.Proofs.YtnchndcanhmbeaaGreatDoor
namespace Go.Proofs.YtnchndcanhmbeaaGreatDoor
open Go.RowKit

def strOf (ns : List Int) : ByteArray := ns.foldl (fun r n => r.push (UInt8.ofNat n.toNat)) ByteArray.empty
theorem conv_str (w : World) (a : Option Addr) (n cap : Nat) (ns : List Int) (hn : n = ns.length) (h : Byt w a ns) : (convert 29 9 (.slice a n cap)).run Tryz.prog w = .ok (.string (strOf ns)) w := by
  subst hn
  rw [run_convert_bytes_string w 29 9 5 a ns.length cap Tryz.underlying29 Tryz.underlying5 Tryz.underlying9]
  cases a with
  | none =>
    have : ns = [] := by
      cases ns with
      | nil => rfl
      | cons z t => obtain ⟨p, o, z', e, _⟩ := h 0 (by simp); cases e
    subst this
    rfl
  | some ad =>
    refine run_bytesToString w ad ns.length cap ns ?_
    have hl := run_loadCells_list (P := Tryz.prog) (w := w) ad (ns.map (Value.int .u8)) (fun j u hu => by
      rw [List.getElem?_map] at hu
      obtain ⟨z, hz, rfl⟩ := Option.map_eq_some_iff.1 hu
      have hj : j < ns.length := by rcases Nat.lt_or_ge j ns.length with h1 | h1; exact h1; rw [List.getElem?_eq_none h1] at hz; cases hz
      obtain ⟨p, o, z', e, hp, hc', hz'⟩ := h j hj
      cases e
      rw [hz] at hz'
      cases hz'
      have ea : (⟨p, o, none⟩ : Addr).add j = ⟨p, o + j, none⟩ := by unfold Addr.add; split <;> simp_all
      rw [ea]; exact hc')
    rw [List.length_map] at hl
    exact hl

/-- A part of a row of bytes. -/
def sub (zs : List Int) (k c : Nat) : List Int := (zs.drop k).take c
theorem sub_len {zs : List Int} {k c : Nat} (h : k + c ≤ zs.length) : (sub zs k c).length = c := by unfold sub; simp; omega
theorem sub_at {zs : List Int} {k c j : Nat} (h : j < c) : (sub zs k c)[j]? = zs[k + j]? := by unfold sub; rw [List.getElem?_take, if_pos h, List.getElem?_drop]
theorem sub_oct {zs : List Int} (h : Oct zs) (k c : Nat) : Oct (sub zs k c) := fun z hz => h z (List.mem_of_mem_drop (List.mem_of_mem_take hz))
theorem Byt.cut {w : World} {a : Option Addr} {zs : List Int} (h : Byt w a zs) (k c : Nat) (hk : k + c ≤ zs.length) : Byt w (a.map fun x => x.add k) (sub zs k c) := fun j hj => by
  rw [sub_len hk] at hj
  obtain ⟨p, o, z, ha, hp, hv, hz⟩ := h (k + j) (by omega)
  subst ha
  refine ⟨p, o + k, z, ?_, hp, by rw [Nat.add_assoc]; exact hv, by rw [sub_at hj]; exact hz⟩
  simp [Addr.add_lit]
theorem Cut.byt {w : World} {R : Nat} {a' : Option Addr} {c at' : Nat} {zs : List Int} (h : Cut w R a' c zs at') (hR : R ≤ w.heap.size) (hk : at' + c ≤ zs.length) : Byt w a' (sub zs at' c) := fun j hj => by
  rw [sub_len hk] at hj
  obtain ⟨p, o, z, ha, hp, hv, hz⟩ := h j hj
  exact ⟨p, o, z, ha, by omega, hv, by rw [sub_at hj]; exact hz⟩

theorem rdF_le {zs : List Int} {at' : Nat} : ∀ (f k0 : Nat) (x0 x : Int) (k : Nat), rdF zs at' f k0 x0 = .good x k → at' + k ≤ zs.length ∧ k0 < k ∧ k ≤ k0 + f
  | 0, _, _, _, _, h => by cases h
  | f + 1, k0, x0, x, k, h => by
      cases hz : zs[at' + k0]? with
      | none => rw [rdF_none hz] at h; cases h
      | some c =>
        have hl : at' + k0 < zs.length := by rcases Nat.lt_or_ge (at' + k0) zs.length with h1 | h1; exact h1; rw [List.getElem?_eq_none h1] at hz; cases hz
        by_cases hc : 128 ≤ c
        · rw [rdF_more hz hc] at h
          have := rdF_le f (k0 + 1) _ x k h
          omega
        · by_cases hb : (c = 0 ∧ 0 < k0) ∨ (k0 = 9 ∧ 1 < c)
          · rw [rdF_bad hz hc hb] at h; cases h
          · rw [rdF_good hz hc hb] at h
            cases h
            omega
theorem rdN_le {zs : List Int} {at' : Nat} {x : Int} {k : Nat} (h : rdN zs at' = .good x k) : at' + k ≤ zs.length ∧ 0 < k ∧ k ≤ 10 := by
  have := rdF_le 10 0 0 x k h; omega

/-- What GetText answers. -/
def gtNo : Value := .tuple #[.string ⟨#[]⟩, .int .i64 0, .bool false]
def gtV (zs : List Int) (a : Int) : Value := if a < 0 then gtNo else match rdN zs a.toNat with
  | .good x k => if 0 ≤ wrap64 x ∧ wrap64 x ≤ (zs.length : Int) - (a + k) then .tuple #[.string (strOf (sub zs (a.toNat + k) (wrap64 x).toNat)), .int .i64 (a + k + wrap64 x), .bool true] else gtNo
  | _ => gtNo
theorem gtV_neg {zs : List Int} {a : Int} (h : a < 0) : gtV zs a = gtNo := by unfold gtV; rw [if_pos h]
theorem gtV_good {zs : List Int} {at' : Nat} {x : Int} {k : Nat} (e : rdN zs at' = .good x k) (h : 0 ≤ wrap64 x ∧ wrap64 x ≤ (zs.length : Int) - ((at' : Int) + k)) : gtV zs (at' : Int) = .tuple #[.string (strOf (sub zs (at' + k) (wrap64 x).toNat)), .int .i64 ((at' : Int) + k + wrap64 x), .bool true] := by
  unfold gtV; rw [if_neg (by omega), Int.toNat_natCast, e]; simp only; rw [if_pos h]
theorem gtV_far {zs : List Int} {at' : Nat} {x : Int} {k : Nat} (e : rdN zs at' = .good x k) (h : ¬ (0 ≤ wrap64 x ∧ wrap64 x ≤ (zs.length : Int) - ((at' : Int) + k))) : gtV zs (at' : Int) = gtNo := by
  unfold gtV; rw [if_neg (by omega), Int.toNat_natCast, e]; simp only; rw [if_neg h]
theorem gtV_torn {zs : List Int} {at' : Nat} (e : rdN zs at' = .torn) : gtV zs (at' : Int) = gtNo := by
  unfold gtV; rw [if_neg (by omega), Int.toNat_natCast, e]
theorem gtV_bad {zs : List Int} {at' : Nat} (e : rdN zs at' = .bad) : gtV zs (at' : Int) = gtNo := by
  unfold gtV; rw [if_neg (by omega), Int.toNat_natCast, e]

/-- How a reading of a text out of a reader ends. -/
def TxtEnd (w : World) (R : Nat) (a : Option Addr) (n cap : Nat) (zs : List Int) (at' : Nat) (e : Ending) (w' : World) : Prop :=
  ((∃ s j, gtV zs (at' : Int) = .tuple #[.string s, .int .i64 ((j : Nat) : Int), .bool true] ∧ e = .returned (.string s) ∧ Rdr w' R a n cap zs j) ∨ (∃ f : Int, gtV zs (at' : Int) = gtNo ∧ f ≠ 0 ∧ e = .panicked [{ v := .iface 92 (.int .i64 f), recovered := false }])) ∧ w.grownBy w' (some R)

set_option maxRecDepth 10000 in
set_option maxHeartbeats 4000000 in
theorem text_any (R : Nat) (a : Option Addr) (n cap at' : Nat) (zs : List Int) (w : World) (h : Rdr w R a n cap zs at') (ho : Oct zs) :
    Calls Tryz.prog 57 #[.pointer (some ⟨R, 0, none⟩)] w fun e w' => TxtEnd w R a n cap zs at' e w' := by
  have HR := hid' h
  have HO := hid' ho
  obtain ⟨hfe, hfe2⟩ := h.few
  have hnc := h.ncap
  have hlen := h.len
  have HRl := hid' h.lt
  clear h ho
  go_enter Tryz.func57, Tryz.ntmps57
  go_wp2_with fail
  refine (count_any 9223372036854775807 R a n cap at' zs w HR.out HO.out).mono ?_
  rintro e w1 ⟨⟨x, k, hg, h0, h1, rfl, hrd⟩ | ⟨hg, rfl⟩ | ⟨hg, rfl⟩, hgr⟩
  · obtain ⟨c, hc⟩ := Int.eq_ofNat_of_zero_le h0
    have HG := hid' hg
    have HC := hid' hc
    have HRD := hid' hrd
    have HGR := hid' hgr
    have hle := hrd.le
    rw [hc] at h1 ⊢
    clear hg hrd hgr hc h0
    by_cases hin : at' + k + c ≤ n
    · have HV : Hid (gtV zs (at' : Int) = .tuple #[.string (strOf (sub zs (at' + k) c)), .int .i64 ((at' + k + c : Nat) : Int), .bool true]) := by
        have := gtV_good HG.out (by rw [HC.out]; omega)
        rw [HC.out] at this
        unfold Hid; rw [this, Int.toNat_natCast]
        congr 3
      go_wp2_with fail
      refine (take_ok R a n cap (at' + k) zs c w1 HRD.out hin).mono ?_
      rintro e w2 ⟨a1, c1, rfl, hc1, hc2, hcut, hrd1, hg1⟩
      have hcv := conv_str w2 a1 c c1 (sub zs (at' + k) c) (sub_len (by omega)).symm (hcut.byt (Nat.le_of_lt hrd1.lt) (by omega))
      have HRD1 := hid' hrd1
      have HG1 := hid' (HGR.out.trans hg1)
      clear hcut hrd1 hg1 hc1 hc2
      go_wp2_with fail
      go_ret
      exact ⟨Or.inl ⟨_, _, HV.out, rfl, HRD1.out⟩, HG1.out⟩
    · have HV : Hid (gtV zs (at' : Int) = gtNo) := gtV_far HG.out (by rw [HC.out]; omega)
      go_wp2_with fail
      refine (take_torn R a n cap (at' + k) zs c w1 HRD.out (by omega) (by omega)).mono ?_
      rintro e w2 ⟨rfl, hg1⟩
      have HG1 := hid' (HGR.out.trans hg1)
      clear hg1
      go_wp2_with fail
      exact ⟨rfl, Or.inr ⟨2, HV.out, by omega, rfl⟩, HG1.out⟩
  · have HV := hid' (gtV_torn hg)
    have HGR := hid' hgr
    clear hg hgr
    go_wp2_with fail
    exact ⟨rfl, Or.inr ⟨2, HV.out, by omega, rfl⟩, HGR.out⟩
  · have HV : Hid (gtV zs (at' : Int) = gtNo) := by
      rcases hg with hg | ⟨x, k, hg, hno⟩
      · exact gtV_bad hg
      · exact gtV_far hg (fun hh => hno ⟨hh.1, by have := rdN_le hg; omega⟩)
    have HGR := hid' hgr
    clear hg hgr
    go_wp2_with fail
    exact ⟨rfl, Or.inr ⟨3, HV.out, by omega, rfl⟩, HGR.out⟩

end Go.Proofs.YtnchndcanhmbeaaGreatDoor
namespace Go.Proofs.YtnchndcanhmbeaaGreatDoor
open Go.RowKit

def wst (x : BitVec 64) (z : Int) : BitVec 64 := (x <<< 8) ||| BitVec.ofInt 64 z
def wv (zs : List Int) : BitVec 64 := zs.foldl wst 0#64
theorem wv_snoc (zs : List Int) (k : Nat) (z : Int) (h : zs[k]? = some z) : wv (zs.take (k + 1)) = wst (wv (zs.take k)) z := by
  have hk : k < zs.length := by rcases Nat.lt_or_ge k zs.length with h1 | h1; exact h1; rw [List.getElem?_eq_none h1] at h; cases h
  have e : zs[k] = z := by rw [List.getElem?_eq_getElem hk] at h; simpa using h
  rw [List.take_succ_eq_append_getElem hk, e]; simp [wv]
theorem bv64 (x : BitVec 64) : 0 ≤ (x.toNat : Int) ∧ (x.toNat : Int) < 18446744073709551616 := by have := x.isLt; omega
theorem toInt_wrap (x : BitVec 64) : x.toInt = IntKind.i64.wrap (x.toNat : Int) := by
  rw [IntKind.wrap_i64, BitVec.toInt_eq_toNat_cond]
  have := x.isLt
  split <;> omega
theorem ofInt_toInt (x : BitVec 64) : BitVec.ofInt 64 x.toInt = x := BitVec.ofInt_toInt
theorem shl8_nat (x : BitVec 64) : ((x <<< 8).toNat : Int) = (x.toNat : Int) * 256 % 18446744073709551616 := by
  rw [BitVec.toNat_shiftLeft, Nat.shiftLeft_eq]; omega
theorem shl8_int (x : BitVec 64) : IntKind.i64.wrap (x.toInt * 256) = (x <<< 8).toInt := by
  rw [toInt_wrap (x <<< 8), shl8_nat, toInt_wrap x]
  simp only [IntKind.wrap_i64]
  have := bv64 x
  omega
theorem wst_i (x : BitVec 64) (z : Int) : bits .or .i64 (IntKind.i64.wrap (x.toInt * 256)) z = (wst x z).toInt := by
  rw [shl8_int]
  show IntKind.i64.wrap ((BitVec.ofInt 64 (x <<< 8).toInt ||| BitVec.ofInt 64 z).toNat : Int) = _
  rw [ofInt_toInt, ← toInt_wrap]; rfl
theorem wst_u (x : BitVec 64) (z : Int) : bits .or .u64 ((x.toNat : Int) * 256 % 18446744073709551616) z = ((wst x z).toNat : Int) := by
  rw [← shl8_nat]
  show IntKind.u64.wrap ((BitVec.ofInt 64 ((x <<< 8).toNat : Int) ||| BitVec.ofInt 64 z).toNat : Int) = _
  have e : BitVec.ofInt 64 ((x <<< 8).toNat : Int) = x <<< 8 := by
    apply BitVec.eq_of_toNat_eq
    rw [BitVec.toNat_ofInt]
    have := (x <<< 8).isLt
    omega
  rw [e, IntKind.wrap_u64]
  have := bv64 (wst x z)
  unfold wst at *
  omega

theorem w64_wrap (x : Int) : wrap64 x = IntKind.i64.wrap x := by rw [IntKind.wrap_i64]; simp only [wrap64]
theorem wst_w (x : BitVec 64) (z : Int) : bits .or .i64 (wrap64 (x.toInt * 256)) z = (wst x z).toInt := by rw [w64_wrap]; exact wst_i x z
theorem toInt_w64 (x : BitVec 64) : wrap64 (x.toNat : Int) = x.toInt := by rw [w64_wrap, ← toInt_wrap]

/-- How a reading of a word out of a reader ends. -/
def WrdEnd (c : Nat) (w : World) (R : Nat) (a : Option Addr) (n cap : Nat) (zs : List Int) (at' : Nat) (e : Ending) (w' : World) : Prop :=
  ((at' + c ≤ n ∧ e = .returned (.int .i64 (wv (sub zs at' c)).toInt) ∧ Rdr w' R a n cap zs (at' + c)) ∨ (¬ at' + c ≤ n ∧ e = .panicked [{ v := .iface 92 (.int .i64 2), recovered := false }])) ∧ w.grownBy w' (some R)

set_option maxRecDepth 10000 in
set_option maxHeartbeats 4000000 in
theorem word_any (c : Nat) (hc : c ≤ 8) (R : Nat) (a : Option Addr) (n cap at' : Nat) (zs : List Int) (w : World) (h : Rdr w R a n cap zs at') (ho : Oct zs) :
    Calls Tryz.prog 65 #[.pointer (some ⟨R, 0, none⟩), .int .i64 c] w fun e w' => WrdEnd c w R a n cap zs at' e w' := by
  have HR := hid' h
  have HO := hid' ho
  have hlen := h.len
  clear h ho
  by_cases hin : at' + c ≤ n
  · go_enter Tryz.func65, Tryz.ntmps65
    go_wp2_with fail
    refine (take_ok R a n cap at' zs c w HR.out hin).mono ?_
    rintro e w1 ⟨a1, c1, rfl, hc1, hc2, hcut, hrd1, hg1⟩
    have HCut := hid' (hcut.byt (Nat.le_of_lt hrd1.lt) (by omega))
    have HRD := hid' hrd1
    have HG := hid' hg1
    have HSL := hid' (sub_len (zs := zs) (k := at') (c := c) (by omega))
    have HSO := hid' (sub_oct HO.out at' c)
    clear hcut hrd1 hg1
    generalize hys : sub zs at' c = ys at *
    have HYS := hid' hys
    clear hys
    go_wp2_with fail
    go_loop [5, 12] (fun t5 t12 => ∃ k : Nat, k ≤ c ∧ t12 = .int .i64 k ∧ t5 = .int .i64 (wv (ys.take k)).toInt) (fun _ t12 => c - (intOf t12).toNat)
    case atStart => exact ⟨0, Nat.zero_le _, rfl, rfl⟩
    case round =>
      obtain ⟨k, hk, rfl, rfl⟩ := hrel
      by_cases hlt : k < c
      · obtain ⟨p, o, z, rfl, hp, hcc, hz⟩ := HCut.out k (by rw [HSL.out]; exact hlt)
        obtain ⟨z0, z1⟩ := HSO.out z (List.mem_of_getElem? hz)
        have HF := hid' (wv_snoc ys k z hz)
        clear hz
        generalize wv (ys.take k) = X at *
        have HS := hid' (wst_w X z)
        go_wp2_with fail
        go_round
        case rel => exact ⟨k + 1, by omega, by go_num, by rw [HF.out, HS.out]⟩
        case measure => simp [intOf]; omega
      · have ht : ys.take k = ys := List.take_of_length_le (by have := HSL.out; omega)
        rw [ht]
        clear ht
        go_wp2_with fail
        go_ret
        exact ⟨Or.inl ⟨hin, by rw [HYS.out]; rfl, HRD.out⟩, HG.out⟩
  · go_enter Tryz.func65, Tryz.ntmps65
    go_wp2_with fail
    refine (take_torn R a n cap at' zs c w HR.out (by omega) (by omega)).mono ?_
    rintro e w1 ⟨rfl, hg1⟩
    have HG := hid' hg1
    clear hg1
    go_wp2_with fail
    exact ⟨rfl, Or.inr ⟨hin, rfl⟩, HG.out⟩

set_option maxRecDepth 10000 in
set_option maxHeartbeats 4000000 in
theorem l3Read_any (c : Nat) (a : Option Addr) (cap : Nat) (zs : List Int) (at' : Nat) (w : World) (hB : Byt w a zs) (ho : Oct zs) (hl : zs.length ≤ 9000000000) (hin : at' + c ≤ zs.length) :
    Calls Tryz.prog 62 #[.slice a zs.length cap, .int .i64 at', .int .i64 c] w fun e w' => e = .returned (.int .i64 (wv (sub zs at' c)).toInt) ∧ w = w' := by
  have HB := hid' hB
  have HSO := hid' (sub_oct ho at' c)
  have HSL := hid' (sub_len (zs := zs) (k := at') (c := c) (by omega))
  have HSA : Hid (∀ j, j < c → (sub zs at' c)[j]? = zs[at' + j]?) := fun j hj => sub_at hj
  clear hB ho
  generalize sub zs at' c = ys at *
  obtain ⟨n, hn⟩ : ∃ n, n = zs.length := ⟨_, rfl⟩
  rw [← hn] at hl hin ⊢
  have HN := hid' hn
  clear hn
  go_enter Tryz.func62, Tryz.ntmps62
  go_wp2_with fail
  go_loop [7, 8] (fun t7 t8 => ∃ k : Nat, k ≤ c ∧ t8 = .int .i64 k ∧ t7 = .int .u64 ((wv (ys.take k)).toNat : Int)) (fun _ t8 => c - (intOf t8).toNat)
  case atStart => exact ⟨0, Nat.zero_le _, rfl, rfl⟩
  case round =>
    obtain ⟨k, hk, rfl, rfl⟩ := hrel
    by_cases hlt : k < c
    · obtain ⟨p, o, z, rfl, hp, hcc, hz⟩ := HB.out (at' + k) (by rw [← HN.out]; omega)
      have hz' : ys[k]? = some z := by rw [HSA.out k hlt]; exact hz
      obtain ⟨z0, z1⟩ := HSO.out z (List.mem_of_getElem? hz')
      have HF := hid' (wv_snoc ys k z hz')
      have i1 : (at' : Int) + (k : Int) < (n : Int) := by omega
      clear hz hz'
      generalize wv (ys.take k) = X at *
      have HS := hid' (wst_u X z)
      have xb := bv64 X
      generalize (X.toNat : Int) = Y at *
      go_wp2_with fail
      go_round
      case rel => exact ⟨k + 1, by omega, by go_num, by rw [HF.out, ← HS.out, IntKind.wrap_u64]⟩
      case measure => simp [intOf]; omega
    · have ht : ys.take k = ys := List.take_of_length_le (by have := HSL.out; omega)
      rw [ht]
      have HW := hid' (toInt_w64 (wv ys))
      clear ht
      generalize hq : ((wv ys).toNat : Int) = Y at *
      clear hq
      go_wp2_with fail
      go_ret
      exact ⟨by rw [← HW.out]; rfl, rfl⟩

end Go.Proofs.YtnchndcanhmbeaaGreatDoor
namespace Go.Proofs.YtnchndcanhmbeaaGreatDoor
open Go.RowKit

def gaNo : Value := .tuple #[.agg #[.bool false, .int .i64 0, .int .i64 0], .int .i64 0, .bool false]
def ga4 (zs : List Int) (k : Nat) : Value := .agg #[.bool false, .int .i64 0, .int .i64 (wv (sub zs (k + 1) 4)).toInt]
def ga6 (zs : List Int) (k : Nat) : Value := .agg #[.bool true, .int .i64 (wv (sub zs (k + 1) 8)).toInt, .int .i64 (wv (sub zs (k + 9) 8)).toInt]
def gaV (zs : List Int) (a : Int) : Value := if a < 0 then gaNo else
  if zs[a.toNat]? = some 4 ∧ a + 5 ≤ zs.length then .tuple #[ga4 zs a.toNat, .int .i64 (a + 5), .bool true]
  else if zs[a.toNat]? = some 6 ∧ a + 17 ≤ zs.length then .tuple #[ga6 zs a.toNat, .int .i64 (a + 17), .bool true]
  else gaNo
theorem gaV_neg {zs : List Int} {a : Int} (h : a < 0) : gaV zs a = gaNo := by unfold gaV; rw [if_pos h]
theorem gaV_4 {zs : List Int} {k : Nat} (h : zs[k]? = some 4) (hl : k + 5 ≤ zs.length) : gaV zs (k : Int) = .tuple #[ga4 zs k, .int .i64 ((k : Int) + 5), .bool true] := by
  unfold gaV; rw [if_neg (by omega), Int.toNat_natCast, if_pos ⟨h, by omega⟩]
theorem gaV_6 {zs : List Int} {k : Nat} (h : zs[k]? = some 6) (hl : k + 17 ≤ zs.length) : gaV zs (k : Int) = .tuple #[ga6 zs k, .int .i64 ((k : Int) + 17), .bool true] := by
  unfold gaV; rw [if_neg (by omega), Int.toNat_natCast, if_neg (by rw [h]; simp), if_pos ⟨h, by omega⟩]
theorem gaV_no {zs : List Int} {k : Nat} (h4 : ¬ (zs[k]? = some 4 ∧ k + 5 ≤ zs.length)) (h6 : ¬ (zs[k]? = some 6 ∧ k + 17 ≤ zs.length)) : gaV zs (k : Int) = gaNo := by
  unfold gaV; rw [if_neg (by omega), Int.toNat_natCast, if_neg (fun h => h4 ⟨h.1, by omega⟩), if_neg (fun h => h6 ⟨h.1, by omega⟩)]

/-- How a reading of an address out of a reader ends. -/
def AdrEnd (w : World) (R : Nat) (a : Option Addr) (n cap : Nat) (zs : List Int) (at' : Nat) (e : Ending) (w' : World) : Prop :=
  ((∃ s h l j, gaV zs (at' : Int) = .tuple #[.agg #[.bool s, .int .i64 h, .int .i64 l], .int .i64 ((j : Nat) : Int), .bool true] ∧ e = .returned (.agg #[.bool s, .int .i64 h, .int .i64 l]) ∧ Rdr w' R a n cap zs j) ∨ (∃ f : Int, gaV zs (at' : Int) = gaNo ∧ f ≠ 0 ∧ e = .panicked [{ v := .iface 92 (.int .i64 f), recovered := false }])) ∧ w.grownBy w' (some R)

/-- A box of three cells that the call itself has made lies on where another block alone is turned. -/
theorem box_far {w w1 : World} {R : Nat} {x y z : Value} {T : TypeId} (hR : R < w.heap.size) (h : (w.alloc (.cells #[x, y, z] T)).grownBy w1 (some R)) :
    (w1.cell? ⟨w.heap.size, 0, none⟩ = some x ∧ w1.cell? ⟨w.heap.size, 1, none⟩ = some y ∧ w1.cell? ⟨w.heap.size, 2, none⟩ = some z) ∧ w1.frozen? ⟨w.heap.size, 0, none⟩ = false ∧ w1.frozen? ⟨w.heap.size, 1, none⟩ = false ∧ w1.frozen? ⟨w.heap.size, 2, none⟩ = false := by
  have hne : some w.heap.size ≠ some R := by simp; omega
  refine ⟨⟨?_, ?_, ?_⟩, ?_, ?_, ?_⟩
  · rw [h.cell_far ⟨w.heap.size, 0, none⟩ (by simp) hne]; simp [go_sem]
  · rw [h.cell_far ⟨w.heap.size, 1, none⟩ (by simp) hne]; simp [go_sem]
  · rw [h.cell_far ⟨w.heap.size, 2, none⟩ (by simp) hne]; simp [go_sem]
  · rw [h.frozen_far ⟨w.heap.size, 0, none⟩ (by simp) hne]; simp [go_sem]
  · rw [h.frozen_far ⟨w.heap.size, 1, none⟩ (by simp) hne]; simp [go_sem]
  · rw [h.frozen_far ⟨w.heap.size, 2, none⟩ (by simp) hne]; simp [go_sem]
/-- Stores into a new block turn nothing old. -/
theorem gr_new {w w' : World} {R B : Nat} (h : w.grownBy w' (some R)) (hB : w.heap.size ≤ B) (j : Nat) (v : Value) : w.grownBy (w'.setCell ⟨B, j, none⟩ v) (some R) :=
  ⟨h.os, h.tape, h.output, by have := h.size; simpa using this, fun k hk hne => (Below.heap_setCell w' ⟨B, j, none⟩ v k (by show k ≠ B; omega)).trans (h.block k hk hne)⟩
theorem Rdr.far {w : World} {R : Nat} {a : Option Addr} {n cap at' : Nat} {zs : List Int} (h : Rdr w R a n cap zs at') {B : Nat} (hB : R < B) (j : Nat) (v : Value) : Rdr (w.setCell ⟨B, j, none⟩ v) R a n cap zs at' := by
  refine ⟨(World.cell?_setCell_far _ _ _ _ (by show B ≠ R; omega)).trans h.row, (World.cell?_setCell_far _ _ _ _ (by show B ≠ R; omega)).trans h.idx, by simp [go_sem, h.frz], h.le, h.len, h.ncap, h.few, fun i hi => ?_⟩
  obtain ⟨p, o, z, ha, hp, hv, hz⟩ := h.byt i hi
  exact ⟨p, o, z, ha, hp, (World.cell?_setCell_far _ _ _ _ (by show B ≠ p; omega)).trans hv, hz⟩

set_option maxRecDepth 10000 in
set_option maxHeartbeats 4000000 in
theorem addr_any (R : Nat) (a : Option Addr) (n cap at' : Nat) (zs : List Int) (w : World) (h : Rdr w R a n cap zs at') (ho : Oct zs) :
    Calls Tryz.prog 56 #[.pointer (some ⟨R, 0, none⟩)] w fun e w' => AdrEnd w R a n cap zs at' e w' := by
  have hRl := h.lt
  have hlen := h.len
  have hle := h.le
  have HR : Hid (Rdr (w.alloc (.cells #[.bool false, .int .i64 0, .int .i64 0] 31)) R a n cap zs at') := h.later ((Below.refl _ w).alloc (Nat.le_refl _) _)
  have HG0 : Hid (w.grownBy (w.alloc (.cells #[.bool false, .int .i64 0, .int .i64 0] 31)) (some R)) := World.grownBy_alloc w _ _
  have HO := hid' ho
  clear h ho
  by_cases hin : at' + 1 ≤ n
  · go_enter Tryz.func56, Tryz.ntmps56
    go_wp2_with fail
    refine (take_ok R a n cap at' zs 1 _ HR.out hin).mono ?_
    rintro e w1 ⟨a1, c1, rfl, hc1, hc2, hcut, hrd1, hg1⟩
    obtain ⟨p, o, c, rfl, hp, hcell, hz⟩ := hcut 0 (by omega)
    obtain ⟨z0, z1⟩ := HO.out c (List.mem_of_getElem? hz)
    have HZ : Hid (zs[at']? = some c) := by unfold Hid; simpa using hz
    have hcell' : w1.cell? ⟨p, o, none⟩ = some (.int .u8 c) := by simpa using hcell
    have HRD := hid' hrd1
    have HG1 := hid' hg1
    clear hcut hz hcell hrd1 hg1
    by_cases h4 : c = 4
    · subst h4
      go_wp2_with fail
      refine (word_any 4 (by omega) R a n cap (at' + 1) zs w1 HRD.out HO.out).mono ?_
      rintro e w2 ⟨⟨hok, rfl, hrd2⟩ | ⟨hno, rfl⟩, hg2⟩
      · obtain ⟨⟨b0, b1, b2⟩, f0, f1, f2⟩ := box_far hRl (HG1.out.trans hg2)
        have HV : Hid (gaV zs (at' : Int) = .tuple #[.agg #[.bool false, .int .i64 0, .int .i64 (wv (sub zs (at' + 1) 4)).toInt], .int .i64 ((at' + 1 + 4 : Nat) : Int), .bool true]) := by
          have := gaV_4 HZ.out (by omega); unfold Hid; rw [this]; unfold ga4; congr 3
        have HRD2 := hid' hrd2
        have HG2 := hid' (HG0.out.trans (HG1.out.trans hg2))
        clear hrd2 hg2
        generalize (wv (sub zs (at' + 1) 4)).toInt = L at *
        go_wp2_with fail
        refine bodyPost_ret (v := .agg #[.bool false, .int .i64 0, .int .i64 L]) (by simp [results, Tryz.results56, go_sem, b0, b1, b2]) rfl ⟨Or.inl ⟨_, _, _, _, HV.out, rfl, ?_⟩, ?_⟩
        · exact ((HRD2.out.far hRl _ _).far hRl _ _).far hRl _ _
        · exact gr_new (gr_new (gr_new HG2.out (Nat.le_refl _) _ _) (Nat.le_refl _) _ _) (Nat.le_refl _) _ _
      · have HV : Hid (gaV zs (at' : Int) = gaNo) := gaV_no (fun hh => hno (by omega)) (fun hh => by have := HZ.out; rw [this] at hh; simp at hh)
        have HG2 := hid' (HG0.out.trans (HG1.out.trans hg2))
        clear hg2
        go_wp2_with fail
        exact ⟨rfl, Or.inr ⟨2, HV.out, by omega, rfl⟩, HG2.out⟩
    · have hb4 : (c == 4) = false := by rw [beq_eq_false_iff_ne]; exact h4
      by_cases h6 : c = 6
      · subst h6
        clear h4
        go_wp2_with fail
        refine (word_any 8 (by omega) R a n cap (at' + 1) zs w1 HRD.out HO.out).mono ?_
        rintro e w2 ⟨⟨hok, rfl, hrd2⟩ | ⟨hno, rfl⟩, hg2⟩
        · have HRD2 := hid' hrd2
          have HG2 := hid' (HG1.out.trans hg2)
          clear hrd2 hg2
          go_wp2_with fail
          refine (word_any 8 (by omega) R a n cap (at' + 1 + 8) zs w2 HRD2.out HO.out).mono ?_
          rintro e w3 ⟨⟨hok3, rfl, hrd3⟩ | ⟨hno, rfl⟩, hg3⟩
          · obtain ⟨⟨b0, b1, b2⟩, f0, f1, f2⟩ := box_far hRl (HG2.out.trans hg3)
            have HV : Hid (gaV zs (at' : Int) = .tuple #[.agg #[.bool true, .int .i64 (wv (sub zs (at' + 1) 8)).toInt, .int .i64 (wv (sub zs (at' + 1 + 8) 8)).toInt], .int .i64 ((at' + 1 + 8 + 8 : Nat) : Int), .bool true]) := by
              have := gaV_6 HZ.out (by omega); unfold Hid; rw [this]; unfold ga6; congr 3
            have HRD3 := hid' hrd3
            have HG3 := hid' (HG0.out.trans (HG2.out.trans hg3))
            clear hrd3 hg3
            generalize (wv (sub zs (at' + 1) 8)).toInt = H at *
            generalize (wv (sub zs (at' + 1 + 8) 8)).toInt = L at *
            go_wp2_with fail
            refine bodyPost_ret (v := .agg #[.bool true, .int .i64 H, .int .i64 L]) (by simp [results, Tryz.results56, go_sem, b0, b1, b2]) rfl ⟨Or.inl ⟨_, _, _, _, HV.out, rfl, ?_⟩, ?_⟩
            · exact ((HRD3.out.far hRl _ _).far hRl _ _).far hRl _ _
            · exact gr_new (gr_new (gr_new HG3.out (Nat.le_refl _) _ _) (Nat.le_refl _) _ _) (Nat.le_refl _) _ _
          · have HV : Hid (gaV zs (at' : Int) = gaNo) := gaV_no (fun hh => by have := HZ.out; rw [this] at hh; simp at hh) (fun hh => hno (by omega))
            have HG3 := hid' (HG0.out.trans (HG2.out.trans hg3))
            clear hg3
            go_wp2_with fail
            exact ⟨rfl, Or.inr ⟨2, HV.out, by omega, rfl⟩, HG3.out⟩
        · have HV : Hid (gaV zs (at' : Int) = gaNo) := gaV_no (fun hh => by have := HZ.out; rw [this] at hh; simp at hh) (fun hh => hno (by omega))
          have HG2 := hid' (HG0.out.trans (HG1.out.trans hg2))
          clear hg2
          go_wp2_with fail
          exact ⟨rfl, Or.inr ⟨2, HV.out, by omega, rfl⟩, HG2.out⟩
      · have hb6 : (c == 6) = false := by rw [beq_eq_false_iff_ne]; exact h6
        have HV : Hid (gaV zs (at' : Int) = gaNo) := gaV_no (fun hh => by have := HZ.out; rw [this] at hh; simp at hh; omega) (fun hh => by have := HZ.out; rw [this] at hh; simp at hh; omega)
        have HG2 := hid' (HG0.out.trans HG1.out)
        clear h4 h6
        go_wp2_with fail
        exact ⟨rfl, Or.inr ⟨3, HV.out, by omega, rfl⟩, HG2.out⟩
  · have HV : Hid (gaV zs (at' : Int) = gaNo) := gaV_no (fun hh => by omega) (fun hh => by omega)
    go_enter Tryz.func56, Tryz.ntmps56
    go_wp2_with fail
    refine (take_torn R a n cap at' zs 1 _ HR.out (by omega) (by omega)).mono ?_
    rintro e w1 ⟨rfl, hg1⟩
    have HG1 := hid' (HG0.out.trans hg1)
    clear hg1
    go_wp2_with fail
    exact ⟨rfl, Or.inr ⟨2, HV.out, by omega, rfl⟩, HG1.out⟩

end Go.Proofs.YtnchndcanhmbeaaGreatDoor
namespace Go.Proofs.YtnchndcanhmbeaaGreatDoor
open Go.RowKit

/-- A number at a place: it, and the place behind it. -/
def rNum (zs : List Int) (p : Nat) : Option (Int × Nat) := match rdN zs p with
  | .good x k => some (wrap64 x, p + k)
  | _ => none
/-- An address at a place. -/
def rAdr (zs : List Int) (p : Nat) : Option ((Bool × Int × Int) × Nat) :=
  if zs[p]? = some 4 ∧ p + 5 ≤ zs.length then some ((false, 0, (wv (sub zs (p + 1) 4)).toInt), p + 5)
  else if zs[p]? = some 6 ∧ p + 17 ≤ zs.length then some ((true, (wv (sub zs (p + 1) 8)).toInt, (wv (sub zs (p + 9) 8)).toInt), p + 17) else none
/-- A text at a place. -/
def rTxt (zs : List Int) (p : Nat) : Option (ByteArray × Nat) := match rdN zs p with
  | .good x k => if 0 ≤ wrap64 x ∧ wrap64 x ≤ (zs.length : Int) - ((p : Int) + k) then some (strOf (sub zs (p + k) (wrap64 x).toNat), p + k + (wrap64 x).toNat) else none
  | _ => none
theorem rNum_good {zs : List Int} {p : Nat} {x : Int} {k : Nat} (h : rdN zs p = .good x k) : rNum zs p = some (wrap64 x, p + k) := by unfold rNum; rw [h]
theorem rNum_torn {zs : List Int} {p : Nat} (h : rdN zs p = .torn) : rNum zs p = none := by unfold rNum; rw [h]
theorem rNum_bad {zs : List Int} {p : Nat} (h : rdN zs p = .bad) : rNum zs p = none := by unfold rNum; rw [h]
/-- What the specification's GetNum answers. -/
theorem gn_r (zs : List Int) (p : Nat) : gnV zs (p : Int) = (match rNum zs p with | some (x, j) => .tuple #[.int .i64 x, .int .i64 ((j : Nat) : Int), .bool true] | none => .tuple #[.int .i64 0, .int .i64 0, .bool false]) := by
  cases h : rdN zs p with
  | good x k => rw [gnV_good h, rNum_good h]; simp
  | torn => rw [gnV_torn h, rNum_torn h]
  | bad => rw [gnV_bad h, rNum_bad h]
theorem gt_r (zs : List Int) (p : Nat) : gtV zs (p : Int) = (match rTxt zs p with | some (x, j) => .tuple #[.string x, .int .i64 ((j : Nat) : Int), .bool true] | none => gtNo) := by
  unfold rTxt
  cases h : rdN zs p with
  | good x k =>
    by_cases hc : 0 ≤ wrap64 x ∧ wrap64 x ≤ (zs.length : Int) - ((p : Int) + k)
    · rw [gtV_good h hc]
      simp only [hc, and_self, if_true]
      have e : ((p + k + (wrap64 x).toNat : Nat) : Int) = (p : Int) + k + wrap64 x := by omega
      rw [e]
    · rw [gtV_far h hc]
      simp only [if_neg hc]
  | torn => rw [gtV_torn h]
  | bad => rw [gtV_bad h]
theorem ga_r (zs : List Int) (p : Nat) : gaV zs (p : Int) = (match rAdr zs p with | some ((s, h, l), j) => .tuple #[.agg #[.bool s, .int .i64 h, .int .i64 l], .int .i64 ((j : Nat) : Int), .bool true] | none => gaNo) := by
  unfold rAdr
  by_cases h4 : zs[p]? = some 4 ∧ p + 5 ≤ zs.length
  · rw [gaV_4 h4.1 h4.2, if_pos h4]; rfl
  · rw [if_neg h4]
    by_cases h6 : zs[p]? = some 6 ∧ p + 17 ≤ zs.length
    · rw [gaV_6 h6.1 h6.2, if_pos h6]; rfl
    · rw [gaV_no h4 h6, if_neg h6]
theorem rTxt_of {zs : List Int} {p : Nat} {s : ByteArray} {j : Nat} (h : gtV zs (p : Int) = .tuple #[.string s, .int .i64 ((j : Nat) : Int), .bool true]) : rTxt zs p = some (s, j) := by
  rw [gt_r] at h
  cases hr : rTxt zs p with
  | none => rw [hr] at h; simp [gtNo] at h
  | some v =>
    obtain ⟨x, i⟩ := v
    rw [hr] at h
    simp at h
    obtain ⟨rfl, h2⟩ := h
    have : i = j := by omega
    rw [this]
theorem rTxt_no {zs : List Int} {p : Nat} (h : gtV zs (p : Int) = gtNo) : rTxt zs p = none := by
  rw [gt_r] at h
  cases hr : rTxt zs p with
  | none => rfl
  | some v => obtain ⟨x, i⟩ := v; rw [hr] at h; simp [gtNo] at h
theorem rAdr_of {zs : List Int} {p : Nat} {s : Bool} {h l : Int} {j : Nat} (e : gaV zs (p : Int) = .tuple #[.agg #[.bool s, .int .i64 h, .int .i64 l], .int .i64 ((j : Nat) : Int), .bool true]) : rAdr zs p = some ((s, h, l), j) := by
  rw [ga_r] at e
  cases hr : rAdr zs p with
  | none => rw [hr] at e; simp [gaNo] at e
  | some v =>
    obtain ⟨⟨s', h', l'⟩, i⟩ := v
    rw [hr] at e
    simp at e
    obtain ⟨⟨rfl, rfl, rfl⟩, e2⟩ := e
    have : i = j := by omega
    rw [this]
theorem rAdr_no {zs : List Int} {p : Nat} (h : gaV zs (p : Int) = gaNo) : rAdr zs p = none := by
  rw [ga_r] at h
  cases hr : rAdr zs p with
  | none => rfl
  | some v => obtain ⟨⟨s', h', l'⟩, i⟩ := v; rw [hr] at h; simp [gaNo] at h
/-- A command's fields. -/
structure Cmd where
  k : Int
  s : Int
  q : Int
  n : Int
  aS : Bool
  aH : Int
  aL : Int
  ab : Int
  b : Int
  hS : Bool
  hH : Int
  hL : Int
  o : ByteArray
  t : Int
  sp : Int
/-- The command that bytes begin with, and the place behind it. -/
def rdC (zs : List Int) : Option (Cmd × Nat) :=
  match rNum zs 0 with
  | none => none
  | some (k, p1) =>
  match rNum zs p1 with
  | none => none
  | some (s, p2) =>
  match rNum zs p2 with
  | none => none
  | some (q, p3) =>
  match rNum zs p3 with
  | none => none
  | some (n, p4) =>
  match rAdr zs p4 with
  | none => none
  | some ((aS, aH, aL), p5) =>
  match rNum zs p5 with
  | none => none
  | some (ab, p6) =>
  match rNum zs p6 with
  | none => none
  | some (b, p7) =>
  match rAdr zs p7 with
  | none => none
  | some ((hS, hH, hL), p8) =>
  match rTxt zs p8 with
  | none => none
  | some (o, p9) =>
  match rNum zs p9 with
  | none => none
  | some (t, p10) =>
  match rNum zs p10 with
  | none => none
  | some (sp, p11) =>
  some (⟨k, s, q, n, aS, aH, aL, ab, b, hS, hH, hL, o, t, sp⟩, p11)

end Go.Proofs.YtnchndcanhmbeaaGreatDoor
namespace Go.Proofs.YtnchndcanhmbeaaGreatDoor
open Go.RowKit

theorem Bx.grownR {x y : World} {p R : Nat} {vs : List Value} (h : Bx x p vs) (hg : x.grownBy y (some R)) (hne : R ≠ p) : Bx y p vs :=
  have hb := hg.block p h.lt (fun e => hne (by simpa using e.symm))
  ⟨fun i v hv => by rw [World.cell?_of_block (w := x) hb]; exact h.cel i v hv, fun o => by rw [World.frozen?_of_block (w := x) hb]; exact h.frz o, Nat.lt_of_lt_of_le h.lt hg.size⟩
/-- How a reading of a command ends. -/
def CmdEnd (w : World) (R : Nat) (a : Option Addr) (m cap : Nat) (zs : List Int) (e : Ending) (w' : World) : Prop :=
  ((∃ c j, rdC zs = some (c, j) ∧ e = .returned (.agg #[.int .i64 c.k, .int .i64 c.s, .int .i64 c.q, .int .i64 c.n, .bool c.aS, .int .i64 c.aH, .int .i64 c.aL, .int .i64 c.ab, .int .i64 c.b, .bool c.hS, .int .i64 c.hH, .int .i64 c.hL, .string c.o, .int .i64 c.t, .int .i64 c.sp]) ∧ Rdr w' R a m cap zs j) ∨ (∃ f : Int, rdC zs = none ∧ f ≠ 0 ∧ e = .panicked [{ v := .iface 92 (.int .i64 f), recovered := false }])) ∧ w.grownBy w' (some R)

set_option maxRecDepth 20000 in
set_option maxHeartbeats 16000000 in
theorem command_any (R : Nat) (a : Option Addr) (m cap : Nat) (zs : List Int) (w : World) (h : Rdr w R a m cap zs 0) (ho : Oct zs) :
    Calls Tryz.prog 35 #[.pointer (some ⟨R, 0, none⟩)] w fun e w' => CmdEnd w R a m cap zs e w' := by
  have hR := h.lt
  unfold CmdEnd
  have z1 : (w.alloc (.cells #[.int .i64 0, .int .i64 0, .int .i64 0, .int .i64 0, .bool false, .int .i64 0, .int .i64 0, .int .i64 0, .int .i64 0, .bool false, .int .i64 0, .int .i64 0, .string ⟨#[]⟩, .int .i64 0, .int .i64 0] 35)).heap.size = w.heap.size + 1 := by simp
  have HA := hidP (Bx.alloc (Bx.new w [.int .i64 0, .int .i64 0, .int .i64 0, .int .i64 0, .bool false, .int .i64 0, .int .i64 0, .int .i64 0, .int .i64 0, .bool false, .int .i64 0, .int .i64 0, .string ⟨#[]⟩, .int .i64 0, .int .i64 0] 35) (.cells #[.int .i64 0, .int .i64 0, .int .i64 0, .int .i64 0, .bool false, .int .i64 0, .int .i64 0, .int .i64 0, .int .i64 0, .bool false, .int .i64 0, .int .i64 0, .string ⟨#[]⟩, .int .i64 0, .int .i64 0] 35))
  have hq := Bx.new (w.alloc (.cells #[.int .i64 0, .int .i64 0, .int .i64 0, .int .i64 0, .bool false, .int .i64 0, .int .i64 0, .int .i64 0, .int .i64 0, .bool false, .int .i64 0, .int .i64 0, .string ⟨#[]⟩, .int .i64 0, .int .i64 0] 35)) [.int .i64 0, .int .i64 0, .int .i64 0, .int .i64 0, .bool false, .int .i64 0, .int .i64 0, .int .i64 0, .int .i64 0, .bool false, .int .i64 0, .int .i64 0, .string ⟨#[]⟩, .int .i64 0, .int .i64 0] 35
  rw [z1] at hq
  have HQ := hidP hq
  have m1 := (Below.refl w.heap.size w).alloc (Nat.le_refl _) (.cells #[.int .i64 0, .int .i64 0, .int .i64 0, .int .i64 0, .bool false, .int .i64 0, .int .i64 0, .int .i64 0, .int .i64 0, .bool false, .int .i64 0, .int .i64 0, .string ⟨#[]⟩, .int .i64 0, .int .i64 0] 35)
  have m2 := (Below.refl (w.alloc (.cells #[.int .i64 0, .int .i64 0, .int .i64 0, .int .i64 0, .bool false, .int .i64 0, .int .i64 0, .int .i64 0, .int .i64 0, .bool false, .int .i64 0, .int .i64 0, .string ⟨#[]⟩, .int .i64 0, .int .i64 0] 35)).heap.size (w.alloc (.cells #[.int .i64 0, .int .i64 0, .int .i64 0, .int .i64 0, .bool false, .int .i64 0, .int .i64 0, .int .i64 0, .int .i64 0, .bool false, .int .i64 0, .int .i64 0, .string ⟨#[]⟩, .int .i64 0, .int .i64 0] 35))).alloc (Nat.le_refl _) (.cells #[.int .i64 0, .int .i64 0, .int .i64 0, .int .i64 0, .bool false, .int .i64 0, .int .i64 0, .int .i64 0, .int .i64 0, .bool false, .int .i64 0, .int .i64 0, .string ⟨#[]⟩, .int .i64 0, .int .i64 0] 35)
  have HRd := hidP ((h.later m1).later m2)
  have HG := hidP (gr_below (gr_below (R := R) ⟨rfl, rfl, rfl, Nat.le_refl _, fun _ _ _ => rfl⟩ m1) m2)
  clear h z1 hq m1 m2
  go_enter Tryz.func35, Tryz.ntmps35
  go_wp2_with fail
  generalize (w.alloc (.cells #[.int .i64 0, .int .i64 0, .int .i64 0, .int .i64 0, .bool false, .int .i64 0, .int .i64 0, .int .i64 0, .int .i64 0, .bool false, .int .i64 0, .int .i64 0, .string ⟨#[]⟩, .int .i64 0, .int .i64 0] 35)).alloc (.cells #[.int .i64 0, .int .i64 0, .int .i64 0, .int .i64 0, .bool false, .int .i64 0, .int .i64 0, .int .i64 0, .int .i64 0, .bool false, .int .i64 0, .int .i64 0, .string ⟨#[]⟩, .int .i64 0, .int .i64 0] 35) = X0 at *
  refine (numR_any R a m cap (0) zs _ HRd.out ho).mono ?_
  rintro e W0 ⟨⟨x0, j0, hg, rfl, hr⟩ | ⟨hg, rfl⟩ | ⟨hg, rfl⟩, hgr⟩
  rotate_left
  · have HGf := hidP (HG.out.trans hgr)
    have EN : Hid (rdC zs = none) := hidP (by simp only [rdC, rNum_torn hg])
    clear HRd HQ HA HG hgr hg
    go_wp2_with fail
    exact ⟨rfl, Or.inr ⟨2, EN.out, by decide, rfl⟩, HGf.out⟩
  · have HGf := hidP (HG.out.trans hgr)
    have EN : Hid (rdC zs = none) := hidP (by simp only [rdC, rNum_bad hg])
    clear HRd HQ HA HG hgr hg
    go_wp2_with fail
    exact ⟨rfl, Or.inr ⟨3, EN.out, by decide, rfl⟩, HGf.out⟩
  have E0 := hidP (rNum_good hg)
  have HR0 := hidP hr
  clear hg hr
  generalize wrap64 x0 = k at *
  generalize hp1 : 0 + j0 = p1 at *
  clear hp1
  have HA1 := hidP (HA.out.grownR hgr (by omega))
  have HQ1 := hidP (HQ.out.grownR hgr (by omega))
  have HG1 := hidP (HG.out.trans hgr)
  clear HA HQ HG hgr HRd
  have c0 := HQ1.out.cel 0 _ rfl
  have f0 := HQ1.out.frz 0
  have HQ : Hid (Bx (W0.setCell ⟨w.heap.size + 1, 0, none⟩ (.int .i64 k)) (w.heap.size + 1) [.int .i64 k, .int .i64 0, .int .i64 0, .int .i64 0, .bool false, .int .i64 0, .int .i64 0, .int .i64 0, .int .i64 0, .bool false, .int .i64 0, .int .i64 0, .string ⟨#[]⟩, .int .i64 0, .int .i64 0]) := hidP (HQ1.out.set 0 _ (.int .i64 k) rfl)
  have HRd := hidP (HR0.out.far (B := w.heap.size + 1) (by omega) 0 (.int .i64 k))
  have HG := hidP (gr_new HG1.out (B := w.heap.size + 1) (by omega) 0 (.int .i64 k))
  have HA := hidP (HA1.out.far (b := w.heap.size + 1) (i := 0) (by omega) (.int .i64 k))
  clear HQ1 HR0 HG1 HA1
  go_wp2_with fail
  clear c0 f0
  generalize W0.setCell ⟨w.heap.size + 1, 0, none⟩ (.int .i64 k) = X1 at *
  refine (numR_any R a m cap (p1) zs _ HRd.out ho).mono ?_
  rintro e W1 ⟨⟨x1, j1, hg, rfl, hr⟩ | ⟨hg, rfl⟩ | ⟨hg, rfl⟩, hgr⟩
  rotate_left
  · have HGf := hidP (HG.out.trans hgr)
    have EN : Hid (rdC zs = none) := hidP (by simp only [rdC, E0.out, rNum_torn hg])
    clear HRd HQ HA HG hgr hg
    go_wp2_with fail
    exact ⟨rfl, Or.inr ⟨2, EN.out, by decide, rfl⟩, HGf.out⟩
  · have HGf := hidP (HG.out.trans hgr)
    have EN : Hid (rdC zs = none) := hidP (by simp only [rdC, E0.out, rNum_bad hg])
    clear HRd HQ HA HG hgr hg
    go_wp2_with fail
    exact ⟨rfl, Or.inr ⟨3, EN.out, by decide, rfl⟩, HGf.out⟩
  have E1 := hidP (rNum_good hg)
  have HR0 := hidP hr
  clear hg hr
  generalize wrap64 x1 = s at *
  generalize hp2 : p1 + j1 = p2 at *
  clear hp2
  have HA1 := hidP (HA.out.grownR hgr (by omega))
  have HQ1 := hidP (HQ.out.grownR hgr (by omega))
  have HG1 := hidP (HG.out.trans hgr)
  clear HA HQ HG hgr HRd
  have c1 := HQ1.out.cel 1 _ rfl
  have f1 := HQ1.out.frz 1
  have HQ : Hid (Bx (W1.setCell ⟨w.heap.size + 1, 1, none⟩ (.int .i64 s)) (w.heap.size + 1) [.int .i64 k, .int .i64 s, .int .i64 0, .int .i64 0, .bool false, .int .i64 0, .int .i64 0, .int .i64 0, .int .i64 0, .bool false, .int .i64 0, .int .i64 0, .string ⟨#[]⟩, .int .i64 0, .int .i64 0]) := hidP (HQ1.out.set 1 _ (.int .i64 s) rfl)
  have HRd := hidP (HR0.out.far (B := w.heap.size + 1) (by omega) 1 (.int .i64 s))
  have HG := hidP (gr_new HG1.out (B := w.heap.size + 1) (by omega) 1 (.int .i64 s))
  have HA := hidP (HA1.out.far (b := w.heap.size + 1) (i := 1) (by omega) (.int .i64 s))
  clear HQ1 HR0 HG1 HA1
  go_wp2_with fail
  clear c1 f1
  generalize W1.setCell ⟨w.heap.size + 1, 1, none⟩ (.int .i64 s) = X2 at *
  refine (numR_any R a m cap (p2) zs _ HRd.out ho).mono ?_
  rintro e W2 ⟨⟨x2, j2, hg, rfl, hr⟩ | ⟨hg, rfl⟩ | ⟨hg, rfl⟩, hgr⟩
  rotate_left
  · have HGf := hidP (HG.out.trans hgr)
    have EN : Hid (rdC zs = none) := hidP (by simp only [rdC, E0.out, E1.out, rNum_torn hg])
    clear HRd HQ HA HG hgr hg
    go_wp2_with fail
    exact ⟨rfl, Or.inr ⟨2, EN.out, by decide, rfl⟩, HGf.out⟩
  · have HGf := hidP (HG.out.trans hgr)
    have EN : Hid (rdC zs = none) := hidP (by simp only [rdC, E0.out, E1.out, rNum_bad hg])
    clear HRd HQ HA HG hgr hg
    go_wp2_with fail
    exact ⟨rfl, Or.inr ⟨3, EN.out, by decide, rfl⟩, HGf.out⟩
  have E2 := hidP (rNum_good hg)
  have HR0 := hidP hr
  clear hg hr
  generalize wrap64 x2 = q at *
  generalize hp3 : p2 + j2 = p3 at *
  clear hp3
  have HA1 := hidP (HA.out.grownR hgr (by omega))
  have HQ1 := hidP (HQ.out.grownR hgr (by omega))
  have HG1 := hidP (HG.out.trans hgr)
  clear HA HQ HG hgr HRd
  have c2 := HQ1.out.cel 2 _ rfl
  have f2 := HQ1.out.frz 2
  have HQ : Hid (Bx (W2.setCell ⟨w.heap.size + 1, 2, none⟩ (.int .i64 q)) (w.heap.size + 1) [.int .i64 k, .int .i64 s, .int .i64 q, .int .i64 0, .bool false, .int .i64 0, .int .i64 0, .int .i64 0, .int .i64 0, .bool false, .int .i64 0, .int .i64 0, .string ⟨#[]⟩, .int .i64 0, .int .i64 0]) := hidP (HQ1.out.set 2 _ (.int .i64 q) rfl)
  have HRd := hidP (HR0.out.far (B := w.heap.size + 1) (by omega) 2 (.int .i64 q))
  have HG := hidP (gr_new HG1.out (B := w.heap.size + 1) (by omega) 2 (.int .i64 q))
  have HA := hidP (HA1.out.far (b := w.heap.size + 1) (i := 2) (by omega) (.int .i64 q))
  clear HQ1 HR0 HG1 HA1
  go_wp2_with fail
  clear c2 f2
  generalize W2.setCell ⟨w.heap.size + 1, 2, none⟩ (.int .i64 q) = X3 at *
  refine (numR_any R a m cap (p3) zs _ HRd.out ho).mono ?_
  rintro e W3 ⟨⟨x3, j3, hg, rfl, hr⟩ | ⟨hg, rfl⟩ | ⟨hg, rfl⟩, hgr⟩
  rotate_left
  · have HGf := hidP (HG.out.trans hgr)
    have EN : Hid (rdC zs = none) := hidP (by simp only [rdC, E0.out, E1.out, E2.out, rNum_torn hg])
    clear HRd HQ HA HG hgr hg
    go_wp2_with fail
    exact ⟨rfl, Or.inr ⟨2, EN.out, by decide, rfl⟩, HGf.out⟩
  · have HGf := hidP (HG.out.trans hgr)
    have EN : Hid (rdC zs = none) := hidP (by simp only [rdC, E0.out, E1.out, E2.out, rNum_bad hg])
    clear HRd HQ HA HG hgr hg
    go_wp2_with fail
    exact ⟨rfl, Or.inr ⟨3, EN.out, by decide, rfl⟩, HGf.out⟩
  have E3 := hidP (rNum_good hg)
  have HR0 := hidP hr
  clear hg hr
  generalize wrap64 x3 = n at *
  generalize hp4 : p3 + j3 = p4 at *
  clear hp4
  have HA1 := hidP (HA.out.grownR hgr (by omega))
  have HQ1 := hidP (HQ.out.grownR hgr (by omega))
  have HG1 := hidP (HG.out.trans hgr)
  clear HA HQ HG hgr HRd
  have c3 := HQ1.out.cel 3 _ rfl
  have f3 := HQ1.out.frz 3
  have HQ : Hid (Bx (W3.setCell ⟨w.heap.size + 1, 3, none⟩ (.int .i64 n)) (w.heap.size + 1) [.int .i64 k, .int .i64 s, .int .i64 q, .int .i64 n, .bool false, .int .i64 0, .int .i64 0, .int .i64 0, .int .i64 0, .bool false, .int .i64 0, .int .i64 0, .string ⟨#[]⟩, .int .i64 0, .int .i64 0]) := hidP (HQ1.out.set 3 _ (.int .i64 n) rfl)
  have HRd := hidP (HR0.out.far (B := w.heap.size + 1) (by omega) 3 (.int .i64 n))
  have HG := hidP (gr_new HG1.out (B := w.heap.size + 1) (by omega) 3 (.int .i64 n))
  have HA := hidP (HA1.out.far (b := w.heap.size + 1) (i := 3) (by omega) (.int .i64 n))
  clear HQ1 HR0 HG1 HA1
  go_wp2_with fail
  clear c3 f3
  generalize W3.setCell ⟨w.heap.size + 1, 3, none⟩ (.int .i64 n) = X4 at *
  refine (addr_any R a m cap (p4) zs _ HRd.out ho).mono ?_
  rintro e W4 ⟨⟨aS, aH, aL, p5, hg, rfl, hr⟩ | ⟨f, hg, hf, rfl⟩, hgr⟩
  rotate_left
  · have HGf := hidP (HG.out.trans hgr)
    have EN : Hid (rdC zs = none) := hidP (by simp only [rdC, E0.out, E1.out, E2.out, E3.out, rAdr_no hg])
    clear HRd HQ HA HG hgr hg
    go_wp2_with fail
    exact ⟨rfl, Or.inr ⟨f, EN.out, hf, rfl⟩, HGf.out⟩
  have E4 := hidP (rAdr_of hg)
  have HR0 := hidP hr
  clear hg hr
  have HA1 := hidP (HA.out.grownR hgr (by omega))
  have HQ1 := hidP (HQ.out.grownR hgr (by omega))
  have HG1 := hidP (HG.out.trans hgr)
  clear HA HQ HG hgr HRd
  have c4 := HQ1.out.cel 4 _ rfl
  have f4 := HQ1.out.frz 4
  have c5 := HQ1.out.cel 5 _ rfl
  have f5 := HQ1.out.frz 5
  have c6 := HQ1.out.cel 6 _ rfl
  have f6 := HQ1.out.frz 6
  have HQ : Hid (Bx (((W4.setCell ⟨w.heap.size + 1, 4, none⟩ (.bool aS)).setCell ⟨w.heap.size + 1, 5, none⟩ (.int .i64 aH)).setCell ⟨w.heap.size + 1, 6, none⟩ (.int .i64 aL)) (w.heap.size + 1) [.int .i64 k, .int .i64 s, .int .i64 q, .int .i64 n, .bool aS, .int .i64 aH, .int .i64 aL, .int .i64 0, .int .i64 0, .bool false, .int .i64 0, .int .i64 0, .string ⟨#[]⟩, .int .i64 0, .int .i64 0]) := hidP (((HQ1.out.set 4 _ (.bool aS) rfl).set 5 _ (.int .i64 aH) rfl).set 6 _ (.int .i64 aL) rfl)
  have HRd := hidP (((HR0.out.far (B := w.heap.size + 1) (by omega) 4 (.bool aS)).far (B := w.heap.size + 1) (by omega) 5 (.int .i64 aH)).far (B := w.heap.size + 1) (by omega) 6 (.int .i64 aL))
  have HG := hidP (gr_new (gr_new (gr_new HG1.out (B := w.heap.size + 1) (by omega) 4 (.bool aS)) (B := w.heap.size + 1) (by omega) 5 (.int .i64 aH)) (B := w.heap.size + 1) (by omega) 6 (.int .i64 aL))
  have HA := hidP (((HA1.out.far (b := w.heap.size + 1) (i := 4) (by omega) (.bool aS)).far (b := w.heap.size + 1) (i := 5) (by omega) (.int .i64 aH)).far (b := w.heap.size + 1) (i := 6) (by omega) (.int .i64 aL))
  clear HQ1 HR0 HG1 HA1
  go_wp2_with fail
  clear c4 f4 c5 f5 c6 f6
  generalize ((W4.setCell ⟨w.heap.size + 1, 4, none⟩ (.bool aS)).setCell ⟨w.heap.size + 1, 5, none⟩ (.int .i64 aH)).setCell ⟨w.heap.size + 1, 6, none⟩ (.int .i64 aL) = X5 at *
  refine (numR_any R a m cap (p5) zs _ HRd.out ho).mono ?_
  rintro e W5 ⟨⟨x5, j5, hg, rfl, hr⟩ | ⟨hg, rfl⟩ | ⟨hg, rfl⟩, hgr⟩
  rotate_left
  · have HGf := hidP (HG.out.trans hgr)
    have EN : Hid (rdC zs = none) := hidP (by simp only [rdC, E0.out, E1.out, E2.out, E3.out, E4.out, rNum_torn hg])
    clear HRd HQ HA HG hgr hg
    go_wp2_with fail
    exact ⟨rfl, Or.inr ⟨2, EN.out, by decide, rfl⟩, HGf.out⟩
  · have HGf := hidP (HG.out.trans hgr)
    have EN : Hid (rdC zs = none) := hidP (by simp only [rdC, E0.out, E1.out, E2.out, E3.out, E4.out, rNum_bad hg])
    clear HRd HQ HA HG hgr hg
    go_wp2_with fail
    exact ⟨rfl, Or.inr ⟨3, EN.out, by decide, rfl⟩, HGf.out⟩
  have E5 := hidP (rNum_good hg)
  have HR0 := hidP hr
  clear hg hr
  generalize wrap64 x5 = ab at *
  generalize hp6 : p5 + j5 = p6 at *
  clear hp6
  have HA1 := hidP (HA.out.grownR hgr (by omega))
  have HQ1 := hidP (HQ.out.grownR hgr (by omega))
  have HG1 := hidP (HG.out.trans hgr)
  clear HA HQ HG hgr HRd
  have c7 := HQ1.out.cel 7 _ rfl
  have f7 := HQ1.out.frz 7
  have HQ : Hid (Bx (W5.setCell ⟨w.heap.size + 1, 7, none⟩ (.int .i64 ab)) (w.heap.size + 1) [.int .i64 k, .int .i64 s, .int .i64 q, .int .i64 n, .bool aS, .int .i64 aH, .int .i64 aL, .int .i64 ab, .int .i64 0, .bool false, .int .i64 0, .int .i64 0, .string ⟨#[]⟩, .int .i64 0, .int .i64 0]) := hidP (HQ1.out.set 7 _ (.int .i64 ab) rfl)
  have HRd := hidP (HR0.out.far (B := w.heap.size + 1) (by omega) 7 (.int .i64 ab))
  have HG := hidP (gr_new HG1.out (B := w.heap.size + 1) (by omega) 7 (.int .i64 ab))
  have HA := hidP (HA1.out.far (b := w.heap.size + 1) (i := 7) (by omega) (.int .i64 ab))
  clear HQ1 HR0 HG1 HA1
  go_wp2_with fail
  clear c7 f7
  generalize W5.setCell ⟨w.heap.size + 1, 7, none⟩ (.int .i64 ab) = X6 at *
  refine (numR_any R a m cap (p6) zs _ HRd.out ho).mono ?_
  rintro e W6 ⟨⟨x6, j6, hg, rfl, hr⟩ | ⟨hg, rfl⟩ | ⟨hg, rfl⟩, hgr⟩
  rotate_left
  · have HGf := hidP (HG.out.trans hgr)
    have EN : Hid (rdC zs = none) := hidP (by simp only [rdC, E0.out, E1.out, E2.out, E3.out, E4.out, E5.out, rNum_torn hg])
    clear HRd HQ HA HG hgr hg
    go_wp2_with fail
    exact ⟨rfl, Or.inr ⟨2, EN.out, by decide, rfl⟩, HGf.out⟩
  · have HGf := hidP (HG.out.trans hgr)
    have EN : Hid (rdC zs = none) := hidP (by simp only [rdC, E0.out, E1.out, E2.out, E3.out, E4.out, E5.out, rNum_bad hg])
    clear HRd HQ HA HG hgr hg
    go_wp2_with fail
    exact ⟨rfl, Or.inr ⟨3, EN.out, by decide, rfl⟩, HGf.out⟩
  have E6 := hidP (rNum_good hg)
  have HR0 := hidP hr
  clear hg hr
  generalize wrap64 x6 = b at *
  generalize hp7 : p6 + j6 = p7 at *
  clear hp7
  have HA1 := hidP (HA.out.grownR hgr (by omega))
  have HQ1 := hidP (HQ.out.grownR hgr (by omega))
  have HG1 := hidP (HG.out.trans hgr)
  clear HA HQ HG hgr HRd
  have c8 := HQ1.out.cel 8 _ rfl
  have f8 := HQ1.out.frz 8
  have HQ : Hid (Bx (W6.setCell ⟨w.heap.size + 1, 8, none⟩ (.int .i64 b)) (w.heap.size + 1) [.int .i64 k, .int .i64 s, .int .i64 q, .int .i64 n, .bool aS, .int .i64 aH, .int .i64 aL, .int .i64 ab, .int .i64 b, .bool false, .int .i64 0, .int .i64 0, .string ⟨#[]⟩, .int .i64 0, .int .i64 0]) := hidP (HQ1.out.set 8 _ (.int .i64 b) rfl)
  have HRd := hidP (HR0.out.far (B := w.heap.size + 1) (by omega) 8 (.int .i64 b))
  have HG := hidP (gr_new HG1.out (B := w.heap.size + 1) (by omega) 8 (.int .i64 b))
  have HA := hidP (HA1.out.far (b := w.heap.size + 1) (i := 8) (by omega) (.int .i64 b))
  clear HQ1 HR0 HG1 HA1
  go_wp2_with fail
  clear c8 f8
  generalize W6.setCell ⟨w.heap.size + 1, 8, none⟩ (.int .i64 b) = X7 at *
  refine (addr_any R a m cap (p7) zs _ HRd.out ho).mono ?_
  rintro e W7 ⟨⟨hS, hH, hL, p8, hg, rfl, hr⟩ | ⟨f, hg, hf, rfl⟩, hgr⟩
  rotate_left
  · have HGf := hidP (HG.out.trans hgr)
    have EN : Hid (rdC zs = none) := hidP (by simp only [rdC, E0.out, E1.out, E2.out, E3.out, E4.out, E5.out, E6.out, rAdr_no hg])
    clear HRd HQ HA HG hgr hg
    go_wp2_with fail
    exact ⟨rfl, Or.inr ⟨f, EN.out, hf, rfl⟩, HGf.out⟩
  have E7 := hidP (rAdr_of hg)
  have HR0 := hidP hr
  clear hg hr
  have HA1 := hidP (HA.out.grownR hgr (by omega))
  have HQ1 := hidP (HQ.out.grownR hgr (by omega))
  have HG1 := hidP (HG.out.trans hgr)
  clear HA HQ HG hgr HRd
  have c9 := HQ1.out.cel 9 _ rfl
  have f9 := HQ1.out.frz 9
  have c10 := HQ1.out.cel 10 _ rfl
  have f10 := HQ1.out.frz 10
  have c11 := HQ1.out.cel 11 _ rfl
  have f11 := HQ1.out.frz 11
  have HQ : Hid (Bx (((W7.setCell ⟨w.heap.size + 1, 9, none⟩ (.bool hS)).setCell ⟨w.heap.size + 1, 10, none⟩ (.int .i64 hH)).setCell ⟨w.heap.size + 1, 11, none⟩ (.int .i64 hL)) (w.heap.size + 1) [.int .i64 k, .int .i64 s, .int .i64 q, .int .i64 n, .bool aS, .int .i64 aH, .int .i64 aL, .int .i64 ab, .int .i64 b, .bool hS, .int .i64 hH, .int .i64 hL, .string ⟨#[]⟩, .int .i64 0, .int .i64 0]) := hidP (((HQ1.out.set 9 _ (.bool hS) rfl).set 10 _ (.int .i64 hH) rfl).set 11 _ (.int .i64 hL) rfl)
  have HRd := hidP (((HR0.out.far (B := w.heap.size + 1) (by omega) 9 (.bool hS)).far (B := w.heap.size + 1) (by omega) 10 (.int .i64 hH)).far (B := w.heap.size + 1) (by omega) 11 (.int .i64 hL))
  have HG := hidP (gr_new (gr_new (gr_new HG1.out (B := w.heap.size + 1) (by omega) 9 (.bool hS)) (B := w.heap.size + 1) (by omega) 10 (.int .i64 hH)) (B := w.heap.size + 1) (by omega) 11 (.int .i64 hL))
  have HA := hidP (((HA1.out.far (b := w.heap.size + 1) (i := 9) (by omega) (.bool hS)).far (b := w.heap.size + 1) (i := 10) (by omega) (.int .i64 hH)).far (b := w.heap.size + 1) (i := 11) (by omega) (.int .i64 hL))
  clear HQ1 HR0 HG1 HA1
  go_wp2_with fail
  clear c9 f9 c10 f10 c11 f11
  generalize ((W7.setCell ⟨w.heap.size + 1, 9, none⟩ (.bool hS)).setCell ⟨w.heap.size + 1, 10, none⟩ (.int .i64 hH)).setCell ⟨w.heap.size + 1, 11, none⟩ (.int .i64 hL) = X8 at *
  refine (text_any R a m cap (p8) zs _ HRd.out ho).mono ?_
  rintro e W8 ⟨⟨o, p9, hg, rfl, hr⟩ | ⟨f, hg, hf, rfl⟩, hgr⟩
  rotate_left
  · have HGf := hidP (HG.out.trans hgr)
    have EN : Hid (rdC zs = none) := hidP (by simp only [rdC, E0.out, E1.out, E2.out, E3.out, E4.out, E5.out, E6.out, E7.out, rTxt_no hg])
    clear HRd HQ HA HG hgr hg
    go_wp2_with fail
    exact ⟨rfl, Or.inr ⟨f, EN.out, hf, rfl⟩, HGf.out⟩
  have E8 := hidP (rTxt_of hg)
  have HR0 := hidP hr
  clear hg hr
  have HA1 := hidP (HA.out.grownR hgr (by omega))
  have HQ1 := hidP (HQ.out.grownR hgr (by omega))
  have HG1 := hidP (HG.out.trans hgr)
  clear HA HQ HG hgr HRd
  have c12 := HQ1.out.cel 12 _ rfl
  have f12 := HQ1.out.frz 12
  have HQ : Hid (Bx (W8.setCell ⟨w.heap.size + 1, 12, none⟩ (.string o)) (w.heap.size + 1) [.int .i64 k, .int .i64 s, .int .i64 q, .int .i64 n, .bool aS, .int .i64 aH, .int .i64 aL, .int .i64 ab, .int .i64 b, .bool hS, .int .i64 hH, .int .i64 hL, .string o, .int .i64 0, .int .i64 0]) := hidP (HQ1.out.set 12 _ (.string o) rfl)
  have HRd := hidP (HR0.out.far (B := w.heap.size + 1) (by omega) 12 (.string o))
  have HG := hidP (gr_new HG1.out (B := w.heap.size + 1) (by omega) 12 (.string o))
  have HA := hidP (HA1.out.far (b := w.heap.size + 1) (i := 12) (by omega) (.string o))
  clear HQ1 HR0 HG1 HA1
  go_wp2_with fail
  clear c12 f12
  generalize W8.setCell ⟨w.heap.size + 1, 12, none⟩ (.string o) = X9 at *
  refine (numR_any R a m cap (p9) zs _ HRd.out ho).mono ?_
  rintro e W9 ⟨⟨x9, j9, hg, rfl, hr⟩ | ⟨hg, rfl⟩ | ⟨hg, rfl⟩, hgr⟩
  rotate_left
  · have HGf := hidP (HG.out.trans hgr)
    have EN : Hid (rdC zs = none) := hidP (by simp only [rdC, E0.out, E1.out, E2.out, E3.out, E4.out, E5.out, E6.out, E7.out, E8.out, rNum_torn hg])
    clear HRd HQ HA HG hgr hg
    go_wp2_with fail
    exact ⟨rfl, Or.inr ⟨2, EN.out, by decide, rfl⟩, HGf.out⟩
  · have HGf := hidP (HG.out.trans hgr)
    have EN : Hid (rdC zs = none) := hidP (by simp only [rdC, E0.out, E1.out, E2.out, E3.out, E4.out, E5.out, E6.out, E7.out, E8.out, rNum_bad hg])
    clear HRd HQ HA HG hgr hg
    go_wp2_with fail
    exact ⟨rfl, Or.inr ⟨3, EN.out, by decide, rfl⟩, HGf.out⟩
  have E9 := hidP (rNum_good hg)
  have HR0 := hidP hr
  clear hg hr
  generalize wrap64 x9 = t at *
  generalize hp10 : p9 + j9 = p10 at *
  clear hp10
  have HA1 := hidP (HA.out.grownR hgr (by omega))
  have HQ1 := hidP (HQ.out.grownR hgr (by omega))
  have HG1 := hidP (HG.out.trans hgr)
  clear HA HQ HG hgr HRd
  have c13 := HQ1.out.cel 13 _ rfl
  have f13 := HQ1.out.frz 13
  have HQ : Hid (Bx (W9.setCell ⟨w.heap.size + 1, 13, none⟩ (.int .i64 t)) (w.heap.size + 1) [.int .i64 k, .int .i64 s, .int .i64 q, .int .i64 n, .bool aS, .int .i64 aH, .int .i64 aL, .int .i64 ab, .int .i64 b, .bool hS, .int .i64 hH, .int .i64 hL, .string o, .int .i64 t, .int .i64 0]) := hidP (HQ1.out.set 13 _ (.int .i64 t) rfl)
  have HRd := hidP (HR0.out.far (B := w.heap.size + 1) (by omega) 13 (.int .i64 t))
  have HG := hidP (gr_new HG1.out (B := w.heap.size + 1) (by omega) 13 (.int .i64 t))
  have HA := hidP (HA1.out.far (b := w.heap.size + 1) (i := 13) (by omega) (.int .i64 t))
  clear HQ1 HR0 HG1 HA1
  go_wp2_with fail
  clear c13 f13
  generalize W9.setCell ⟨w.heap.size + 1, 13, none⟩ (.int .i64 t) = X10 at *
  refine (numR_any R a m cap (p10) zs _ HRd.out ho).mono ?_
  rintro e W10 ⟨⟨x10, j10, hg, rfl, hr⟩ | ⟨hg, rfl⟩ | ⟨hg, rfl⟩, hgr⟩
  rotate_left
  · have HGf := hidP (HG.out.trans hgr)
    have EN : Hid (rdC zs = none) := hidP (by simp only [rdC, E0.out, E1.out, E2.out, E3.out, E4.out, E5.out, E6.out, E7.out, E8.out, E9.out, rNum_torn hg])
    clear HRd HQ HA HG hgr hg
    go_wp2_with fail
    exact ⟨rfl, Or.inr ⟨2, EN.out, by decide, rfl⟩, HGf.out⟩
  · have HGf := hidP (HG.out.trans hgr)
    have EN : Hid (rdC zs = none) := hidP (by simp only [rdC, E0.out, E1.out, E2.out, E3.out, E4.out, E5.out, E6.out, E7.out, E8.out, E9.out, rNum_bad hg])
    clear HRd HQ HA HG hgr hg
    go_wp2_with fail
    exact ⟨rfl, Or.inr ⟨3, EN.out, by decide, rfl⟩, HGf.out⟩
  have E10 := hidP (rNum_good hg)
  have HR0 := hidP hr
  clear hg hr
  generalize wrap64 x10 = sp at *
  generalize hp11 : p10 + j10 = p11 at *
  clear hp11
  have HA1 := hidP (HA.out.grownR hgr (by omega))
  have HQ1 := hidP (HQ.out.grownR hgr (by omega))
  have HG1 := hidP (HG.out.trans hgr)
  clear HA HQ HG hgr HRd
  have c14 := HQ1.out.cel 14 _ rfl
  have f14 := HQ1.out.frz 14
  have c0 := HQ1.out.cel 0 _ rfl
  have a0 := HA1.out.cel 0 _ rfl
  have g0 := HA1.out.frz 0
  have c1 := HQ1.out.cel 1 _ rfl
  have a1 := HA1.out.cel 1 _ rfl
  have g1 := HA1.out.frz 1
  have c2 := HQ1.out.cel 2 _ rfl
  have a2 := HA1.out.cel 2 _ rfl
  have g2 := HA1.out.frz 2
  have c3 := HQ1.out.cel 3 _ rfl
  have a3 := HA1.out.cel 3 _ rfl
  have g3 := HA1.out.frz 3
  have c4 := HQ1.out.cel 4 _ rfl
  have a4 := HA1.out.cel 4 _ rfl
  have g4 := HA1.out.frz 4
  have c5 := HQ1.out.cel 5 _ rfl
  have a5 := HA1.out.cel 5 _ rfl
  have g5 := HA1.out.frz 5
  have c6 := HQ1.out.cel 6 _ rfl
  have a6 := HA1.out.cel 6 _ rfl
  have g6 := HA1.out.frz 6
  have c7 := HQ1.out.cel 7 _ rfl
  have a7 := HA1.out.cel 7 _ rfl
  have g7 := HA1.out.frz 7
  have c8 := HQ1.out.cel 8 _ rfl
  have a8 := HA1.out.cel 8 _ rfl
  have g8 := HA1.out.frz 8
  have c9 := HQ1.out.cel 9 _ rfl
  have a9 := HA1.out.cel 9 _ rfl
  have g9 := HA1.out.frz 9
  have c10 := HQ1.out.cel 10 _ rfl
  have a10 := HA1.out.cel 10 _ rfl
  have g10 := HA1.out.frz 10
  have c11 := HQ1.out.cel 11 _ rfl
  have a11 := HA1.out.cel 11 _ rfl
  have g11 := HA1.out.frz 11
  have c12 := HQ1.out.cel 12 _ rfl
  have a12 := HA1.out.cel 12 _ rfl
  have g12 := HA1.out.frz 12
  have c13 := HQ1.out.cel 13 _ rfl
  have a13 := HA1.out.cel 13 _ rfl
  have g13 := HA1.out.frz 13
  have a14 := HA1.out.cel 14 _ rfl
  have g14 := HA1.out.frz 14
  have hX : w.heap.size < W10.heap.size := HA1.out.lt
  have hY : w.heap.size + 1 < W10.heap.size := HQ1.out.lt
  clear HQ1 HA1
  go_wp2_with fail
  refine bodyPost_ret (v := .agg #[.int .i64 k, .int .i64 s, .int .i64 q, .int .i64 n, .bool aS, .int .i64 aH, .int .i64 aL, .int .i64 ab, .int .i64 b, .bool hS, .int .i64 hH, .int .i64 hL, .string o, .int .i64 t, .int .i64 sp]) (by simp [results, Tryz.results35, go_sem, a0, a1, a2, a3, a4, a5, a6, a7, a8, a9, a10, a11, a12, a13, a14]) rfl ⟨Or.inl ⟨⟨k, s, q, n, aS, aH, aL, ab, b, hS, hH, hL, o, t, sp⟩, p11, by simp only [rdC, E0.out, E1.out, E2.out, E3.out, E4.out, E5.out, E6.out, E7.out, E8.out, E9.out, E10.out], rfl, ?_⟩, ?_⟩
  · exact ((((((((((((((((HR0.out.far (B := w.heap.size + 1) (by omega) 14 (.int .i64 sp)).far (B := w.heap.size) (by omega) 0 (.int .i64 k)).far (B := w.heap.size) (by omega) 1 (.int .i64 s)).far (B := w.heap.size) (by omega) 2 (.int .i64 q)).far (B := w.heap.size) (by omega) 3 (.int .i64 n)).far (B := w.heap.size) (by omega) 4 (.bool aS)).far (B := w.heap.size) (by omega) 5 (.int .i64 aH)).far (B := w.heap.size) (by omega) 6 (.int .i64 aL)).far (B := w.heap.size) (by omega) 7 (.int .i64 ab)).far (B := w.heap.size) (by omega) 8 (.int .i64 b)).far (B := w.heap.size) (by omega) 9 (.bool hS)).far (B := w.heap.size) (by omega) 10 (.int .i64 hH)).far (B := w.heap.size) (by omega) 11 (.int .i64 hL)).far (B := w.heap.size) (by omega) 12 (.string o)).far (B := w.heap.size) (by omega) 13 (.int .i64 t)).far (B := w.heap.size) (by omega) 14 (.int .i64 sp))
  · exact (gr_new (gr_new (gr_new (gr_new (gr_new (gr_new (gr_new (gr_new (gr_new (gr_new (gr_new (gr_new (gr_new (gr_new (gr_new (gr_new HG1.out (B := w.heap.size + 1) (by omega) 14 (.int .i64 sp)) (B := w.heap.size) (by omega) 0 (.int .i64 k)) (B := w.heap.size) (by omega) 1 (.int .i64 s)) (B := w.heap.size) (by omega) 2 (.int .i64 q)) (B := w.heap.size) (by omega) 3 (.int .i64 n)) (B := w.heap.size) (by omega) 4 (.bool aS)) (B := w.heap.size) (by omega) 5 (.int .i64 aH)) (B := w.heap.size) (by omega) 6 (.int .i64 aL)) (B := w.heap.size) (by omega) 7 (.int .i64 ab)) (B := w.heap.size) (by omega) 8 (.int .i64 b)) (B := w.heap.size) (by omega) 9 (.bool hS)) (B := w.heap.size) (by omega) 10 (.int .i64 hH)) (B := w.heap.size) (by omega) 11 (.int .i64 hL)) (B := w.heap.size) (by omega) 12 (.string o)) (B := w.heap.size) (by omega) 13 (.int .i64 t)) (B := w.heap.size) (by omega) 14 (.int .i64 sp))

end Go.Proofs.YtnchndcanhmbeaaGreatDoor
namespace Go.Proofs.YtnchndcanhmbeaaGreatDoor
open Go.RowKit

/-- A new reader over bytes, behind a new cell. -/
theorem rdr_new (w : World) (a : Option Addr) (n cap : Nat) (zs : List Int) (at' : Nat) (hB : Byt w a zs) (hlen : zs.length = n) (hnc : n ≤ cap) (hcap : n ≤ 1000000000000 ∧ cap ≤ 9223372036854775807) (hle : at' ≤ n) :
    Rdr ((w.alloc (.cells #[.int .i64 3] 3)).alloc (.cells #[.slice a n cap, .int .i64 at'] 95)) (w.heap.size + 1) a n cap zs at' := by
  refine ⟨by simp [go_sem], by simp [go_sem], by simp [go_sem], hle, hlen, hnc, hcap, fun j hj => ?_⟩
  obtain ⟨p, o, z, ha, hp, hc, hz⟩ := hB j (by omega)
  exact ⟨p, o, z, ha, by omega, ((((Below.refl _ w).alloc (Nat.le_refl _) _).alloc (by simp) _).cell (p := ⟨p, o + j, none⟩) hp).trans hc, hz⟩
theorem code_cell {w w1 : World} {ob : Obj} (h : ((w.alloc (.cells #[.int .i64 3] 3)).alloc ob).grownBy w1 (some (w.heap.size + 1))) :
    w1.cell? ⟨w.heap.size, 0, none⟩ = some (.int .i64 3) ∧ w1.frozen? ⟨w.heap.size, 0, none⟩ = false ∧ Below w.heap.size w w1 := by
  refine ⟨?_, ?_, ?_⟩
  · rw [h.cell_far ⟨w.heap.size, 0, none⟩ (by simp; omega) (by simp)]
    have := (((Below.refl (w.heap.size + 1) (w.alloc (.cells #[.int .i64 3] 3))).alloc (by simp) ob).cell (p := ⟨w.heap.size, 0, none⟩) (by simp))
    rw [this]; simp [go_sem]
  · rw [h.frozen_far ⟨w.heap.size, 0, none⟩ (by simp; omega) (by simp)]
    have := (((Below.refl (w.heap.size + 1) (w.alloc (.cells #[.int .i64 3] 3))).alloc (by simp) ob).frozen (p := ⟨w.heap.size, 0, none⟩) (by simp))
    rw [this]; simp [go_sem]
  · exact ((((Below.refl _ w).alloc (Nat.le_refl _) _).alloc (by simp) ob)).grown h (by simp; omega) (fun k hk => by simp at hk; omega)

end Go.Proofs.YtnchndcanhmbeaaGreatDoor
namespace Go.Proofs.YtnchndcanhmbeaaGreatDoor
open Go.RowKit

set_option maxRecDepth 10000 in
set_option maxHeartbeats 1000000 in
theorem sGetNum_neg (a : Option Addr) (n cap : Nat) (at' : Int) (w : World) (h : at' < 0) :
    Calls Tryz.prog 51 #[.slice a n cap, .int .i64 at'] w fun e w' => e = .returned (.tuple #[.int .i64 0, .int .i64 0, .bool false]) ∧ w = w' := by
  go_enter Tryz.func51, Tryz.ntmps51
  go_wp2
  exact bodyPost_ret (v := .tuple #[.int .i64 0, .int .i64 0, .bool false]) (by simp [results, Tryz.results51, go_sem]) rfl ⟨rfl, rfl⟩

theorem sGetNum_all (a : Option Addr) (cap : Nat) (zs : List Int) (at' : Int) (w : World) (hB : Byt w a zs) (ho : Oct zs) (hl : zs.length ≤ 9000000000) (ha : at' ≤ 9223372036854775807) :
    Calls Tryz.prog 51 #[.slice a zs.length cap, .int .i64 at'] w fun e w' => e = .returned (gnV zs at') ∧ w = w' := by
  by_cases h : at' < 0
  · rw [gnV_neg h]; exact sGetNum_neg a _ cap at' w h
  · obtain ⟨k, rfl⟩ := Int.eq_ofNat_of_zero_le (show 0 ≤ at' by omega)
    exact sGetNum_any a cap zs k w hB ho hl (by omega)

theorem sGetNum_b (a : Option Addr) (cap : Nat) (zs : List Int) (at' : Int) (w : World) (hB : Byt w a zs) (ho : Oct zs) (hl : zs.length ≤ 9000000000) (ha : at' ≤ 9223372036854775807) :
    Calls Tryz.prog 51 #[.slice a zs.length cap, .int .i64 at'] w fun e w' => e = .returned (gnV zs at') ∧ Below w.heap.size w w' :=
  (sGetNum_all a cap zs at' w hB ho hl ha).mono fun _ _ h => ⟨h.1, below_eq h.2⟩

end Go.Proofs.YtnchndcanhmbeaaGreatDoor
namespace Go.Proofs.YtnchndcanhmbeaaGreatDoor
open Go.RowKit

set_option maxRecDepth 10000 in
set_option maxHeartbeats 4000000 in
theorem sGetText_all (a : Option Addr) (cap : Nat) (zs : List Int) (at' : Int) (w : World) (hB : Byt w a zs) (ho : Oct zs) (hnc : zs.length ≤ cap) (hcap : cap ≤ 1000000000) (ha : at' ≤ 9223372036854775807) :
    Calls Tryz.prog 53 #[.slice a zs.length cap, .int .i64 at'] w fun e w' => e = .returned (gtV zs at') ∧ Below w.heap.size w w' := by
  have HB := hid' hB
  have HO := hid' ho
  clear hB ho
  obtain ⟨n, hn⟩ : ∃ n, n = zs.length := ⟨_, rfl⟩
  have HN := hid' hn
  have no : ∀ (p q : Int), gnV zs at' = .tuple #[.int .i64 p, .int .i64 q, .bool false] → gtV zs at' = gtNo → Calls Tryz.prog 53 #[.slice a zs.length cap, .int .i64 at'] w fun e w' => e = .returned (gtV zs at') ∧ Below w.heap.size w w' := by
    intro p q h1 h2
    have H1 := hid' h1
    have H2 := hid' h2
    clear h1 h2 hn
    go_enter Tryz.func53, Tryz.ntmps53
    go_wp2_with fail
    refine (sGetNum_all a cap zs at' w HB.out HO.out (by omega) ha).mono ?_
    rw [H1.out]
    rintro e w1 ⟨rfl, rfl⟩
    go_wp2_with fail
    exact bodyPost_ret (v := gtNo) (by simp [gtNo, results, Tryz.results53, go_sem]) rfl ⟨by rw [H2.out], Below.refl _ _⟩
  by_cases hneg : at' < 0
  · exact no _ _ (gnV_neg hneg) (gtV_neg hneg)
  obtain ⟨k0, rfl⟩ := Int.eq_ofNat_of_zero_le (show 0 ≤ at' by omega)
  cases hr : rdN zs k0 with
  | torn => exact no _ _ (gnV_torn hr) (gtV_torn hr)
  | bad => exact no _ _ (gnV_bad hr) (gtV_bad hr)
  | good x k =>
    have hle := rdN_le hr
    have H1 := hid' (gnV_good hr)
    clear no
    by_cases hok : 0 ≤ wrap64 x ∧ wrap64 x ≤ (zs.length : Int) - ((k0 : Int) + k)
    · have hV := gtV_good hr hok
      obtain ⟨c, hc⟩ := Int.eq_ofNat_of_zero_le hok.1
      rw [hc] at hV hok H1
      rw [Int.toNat_natCast] at hV
      have H2 := hid' hV
      have hin : k0 + k + c ≤ zs.length := by omega
      clear hV hr hc
      rw [← hn] at hin hle hnc hok ⊢
      have hkn : k0 + k ≤ n := by omega
      clear hn
      go_enter Tryz.func53, Tryz.ntmps53
      go_wp2_with fail
      have hg := sGetNum_all a cap zs k0 w HB.out HO.out (by have := HN.out; omega) ha
      rw [H1.out, ← HN.out] at hg
      refine hg.mono ?_
      rintro e w1 ⟨rfl, rfl⟩
      clear hg
      have hcut := HB.out.cut (k0 + k) c (by rw [← HN.out]; exact hin)
      by_cases hcap0 : cap = k0 + k
      · have hc0 : c = 0 := by omega
        subst hc0
        subst hcap0
        have hcv := conv_str w a 0 0 [] rfl (Byt.nil _ _)
        have HS : Hid (strOf (sub zs (k0 + k) 0) = strOf []) := by unfold Hid sub; simp
        have E1 : Hid ((k0 : Int) + k + ((0 : Nat) : Int) = (k0 : Int) + k) := by unfold Hid; omega
        clear hcut
        go_wp2_with fail
        exact bodyPost_ret (v := .tuple #[.string (strOf []), .int .i64 ((k0 : Int) + k), .bool true]) (by simp [results, Tryz.results53, go_sem]) rfl ⟨by rw [H2.out, HS.out, E1.out], Below.refl _ _⟩
      · have hcv := conv_str w (a.map fun x => x.add (k0 + k)) c (cap - (k0 + k)) (sub zs (k0 + k) c) (sub_len (by rw [← HN.out]; exact hin)).symm hcut
        clear hcut
        go_wp2_with fail
        exact bodyPost_ret (v := .tuple #[.string (strOf (sub zs (k0 + k) c)), .int .i64 ((k0 : Int) + k + c), .bool true]) (by simp [results, Tryz.results53, go_sem]) rfl ⟨by rw [H2.out], Below.refl _ _⟩
    · have H2 := hid' (gtV_far hr hok)
      generalize hy : wrap64 x = y at hok H1
      clear hr hy
      rw [← hn] at hok hle hnc ⊢
      clear hn
      have hg := sGetNum_all a cap zs k0 w HB.out HO.out (by have := HN.out; omega) ha
      rw [H1.out, ← HN.out] at hg
      have HGn := hid' hg
      clear hg
      by_cases h0 : y < 0
      · clear hok
        go_enter Tryz.func53, Tryz.ntmps53
        go_wp2_with fail
        refine HGn.out.mono ?_
        rintro e w1 ⟨rfl, rfl⟩
        go_wp2_with fail
        exact bodyPost_ret (v := gtNo) (by simp [gtNo, results, Tryz.results53, go_sem]) rfl ⟨by rw [H2.out], Below.refl _ _⟩
      · have h1 : (n : Int) - ((k0 : Int) + k) < y := by omega
        clear hok
        go_enter Tryz.func53, Tryz.ntmps53
        go_wp2_with fail
        refine HGn.out.mono ?_
        rintro e w1 ⟨rfl, rfl⟩
        go_wp2_with fail
        exact bodyPost_ret (v := gtNo) (by simp [gtNo, results, Tryz.results53, go_sem]) rfl ⟨by rw [H2.out], Below.refl _ _⟩

end Go.Proofs.YtnchndcanhmbeaaGreatDoor
namespace Go.Proofs.YtnchndcanhmbeaaGreatDoor
open Go.RowKit

theorem l3Read_at (c : Nat) (a : Option Addr) (cap : Nat) (zs : List Int) (at' : Nat) (A : Int) (hA : A = (at' : Int)) (w : World) (hB : Byt w a zs) (ho : Oct zs) (hl : zs.length ≤ 9000000000) (hin : at' + c ≤ zs.length) :
    Calls Tryz.prog 62 #[.slice a zs.length cap, .int .i64 A, .int .i64 c] w fun e w' => e = .returned (.int .i64 (wv (sub zs at' c)).toInt) ∧ w = w' := by
  subst hA; exact l3Read_any c a cap zs at' w hB ho hl hin

set_option maxRecDepth 10000 in
set_option maxHeartbeats 4000000 in
theorem sGetAddr_all (a : Option Addr) (cap : Nat) (zs : List Int) (at' : Int) (w : World) (hB : Byt w a zs) (ho : Oct zs) (hl : zs.length ≤ 9000000000) :
    Calls Tryz.prog 52 #[.slice a zs.length cap, .int .i64 at'] w fun e w' => e = .returned (gaV zs at') ∧ Below w.heap.size w w' := by
  have HB := hid' (hB.later ((Below.refl _ w).alloc (Nat.le_refl _) (.cells #[.bool false, .int .i64 0, .int .i64 0] 31)))
  have HB0 := hid' hB
  have HO := hid' ho
  clear hB ho
  by_cases hin : 0 ≤ at' ∧ at' ≤ (zs.length : Int) - 1
  · obtain ⟨k, rfl⟩ := Int.eq_ofNat_of_zero_le hin.1
    have hk : k < zs.length := by omega
    obtain ⟨p, o, c, ha, hp, hc, hz⟩ := HB.out k hk
    obtain ⟨z0, z1⟩ := HO.out c (List.mem_of_getElem? hz)
    have HZ := hid' hz
    have HIN := hid' (decide_eq_true hin)
    obtain ⟨n, hn⟩ : ∃ n, n = zs.length := ⟨_, rfl⟩
    have HN := hid' hn
    clear hz hin
    rw [← hn] at hk hl HIN ⊢
    clear hn
    have kn : (k : Int) < (n : Int) := by omega
    by_cases h4 : c = 4 ∧ k + 5 ≤ n
    · obtain ⟨rfl, h5⟩ := h4
      have HV := hid' (gaV_4 HZ.out (by rw [← HN.out]; exact h5))
      go_enter Tryz.func52, Tryz.ntmps52
      go_wp2_with fail
      refine (l1In_any _ _ _ _).mono ?_
      rw [HIN.out]
      rintro e w1 ⟨rfl, rfl⟩
      have hrd := l3Read_at 4 a cap zs (k + 1) ((k : Int) + 1) rfl _ HB.out HO.out (by have := HN.out; omega) (by have := HN.out; omega)
      rw [← HN.out] at hrd
      have HRD := hid' hrd
      clear hrd
      subst ha
      generalize hL : (wv (sub zs (k + 1) 4)).toInt = L at *
      have HL := hid' hL
      clear hL
      go_wp2_with fail
      refine HRD.out.mono ?_
      rintro e w1 ⟨rfl, rfl⟩
      go_wp2_with fail
      refine bodyPost_ret (v := .tuple #[.agg #[.bool false, .int .i64 0, .int .i64 L], .int .i64 ((k : Int) + 5), .bool true]) (by simp [results, Tryz.results52, go_sem]) rfl ⟨by rw [HV.out]; unfold ga4; rw [HL.out], ?_⟩
      repeat (first | with_reducible exact Below.refl _ _ | (with_reducible refine Below.setCell ?_ (by first | omega | (simp; done) | (simp; omega)) _) | (with_reducible refine Below.alloc ?_ (by first | omega | (simp; done) | (simp; omega)) _))
    · by_cases h6 : c = 6 ∧ k + 17 ≤ n
      · obtain ⟨rfl, h5⟩ := h6
        have HV := hid' (gaV_6 HZ.out (by rw [← HN.out]; exact h5))
        have hrd := l3Read_at 8 a cap zs (k + 1) ((k : Int) + 1) rfl _ HB.out HO.out (by have := HN.out; omega) (by have := HN.out; omega)
        have hrd2 := l3Read_at 8 a cap zs (k + 9) ((k : Int) + 9) rfl _ HB.out HO.out (by have := HN.out; omega) (by have := HN.out; omega)
        rw [← HN.out] at hrd hrd2
        have HRD := hid' hrd
        have HRD2 := hid' hrd2
        clear hrd hrd2 h4
        subst ha
        generalize hH : (wv (sub zs (k + 1) 8)).toInt = H at *
        generalize hL : (wv (sub zs (k + 9) 8)).toInt = L at *
        have HL := hid' hL
        have HH := hid' hH
        clear hL hH
        go_enter Tryz.func52, Tryz.ntmps52
        go_wp2_with fail
        refine (l1In_any _ _ _ _).mono ?_
        rw [HIN.out]
        rintro e w1 ⟨rfl, rfl⟩
        go_wp2_with fail
        refine HRD.out.mono ?_
        rintro e w1 ⟨rfl, rfl⟩
        go_wp2_with fail
        refine HRD2.out.mono ?_
        rintro e w1 ⟨rfl, rfl⟩
        go_wp2_with fail
        refine bodyPost_ret (v := .tuple #[.agg #[.bool true, .int .i64 H, .int .i64 L], .int .i64 ((k : Int) + 17), .bool true]) (by simp [results, Tryz.results52, go_sem]) rfl ⟨by rw [HV.out]; unfold ga6; rw [HL.out, HH.out], ?_⟩
        repeat (first | with_reducible exact Below.refl _ _ | (with_reducible refine Below.setCell ?_ (by first | omega | (simp; done) | (simp; omega)) _) | (with_reducible refine Below.alloc ?_ (by first | omega | (simp; done) | (simp; omega)) _))
      · have HV : Hid (gaV zs (k : Int) = gaNo) := gaV_no (fun hh => h4 ⟨by have := HZ.out; rw [this] at hh; simpa using hh.1, by rw [HN.out]; exact hh.2⟩) (fun hh => h6 ⟨by have := HZ.out; rw [this] at hh; simpa using hh.1, by rw [HN.out]; exact hh.2⟩)
        have h4' : (c == 4) = true → (n : Int) - (k : Int) < 5 := by intro e; rw [beq_iff_eq] at e; by_cases q : k + 5 ≤ n; exact absurd ⟨e, q⟩ h4; omega
        have h6' : (c == 6) = true → (n : Int) - (k : Int) < 17 := by intro e; rw [beq_iff_eq] at e; by_cases q : k + 17 ≤ n; exact absurd ⟨e, q⟩ h6; omega
        have H4' := hid' h4'
        have H6' := hid' h6'
        clear h4 h6 h4' h6'
        subst ha
        have fin : ∀ (b4 b6 : Bool), (c == 4) = b4 → (c == 6) = b6 → Calls Tryz.prog 52 #[.slice (some ⟨p, o, none⟩) n cap, .int .i64 k] w fun e w' => e = .returned (gaV zs k) ∧ Below w.heap.size w w' := by
          intro b4 b6 e4 e6
          cases b4
          · cases b6
            · go_enter Tryz.func52, Tryz.ntmps52
              go_wp2_with fail
              refine (l1In_any _ _ _ _).mono ?_
              rw [HIN.out]
              rintro e w1 ⟨rfl, rfl⟩
              go_wp2_with fail
              refine bodyPost_ret (v := gaNo) (by simp [gaNo, results, Tryz.results52, go_sem]) rfl ⟨by rw [HV.out], ?_⟩
              repeat (first | with_reducible exact Below.refl _ _ | (with_reducible refine Below.setCell ?_ (by first | omega | (simp; done) | (simp; omega)) _) | (with_reducible refine Below.alloc ?_ (by first | omega | (simp; done) | (simp; omega)) _))
            · have q := H6'.out e6
              have d : decide ((17 : Int) ≤ (n : Int) - (k : Int)) = false := decide_eq_false (by omega)
              go_enter Tryz.func52, Tryz.ntmps52
              go_wp2_with fail
              refine (l1In_any _ _ _ _).mono ?_
              rw [HIN.out]
              rintro e w1 ⟨rfl, rfl⟩
              go_wp2_with fail
              refine bodyPost_ret (v := gaNo) (by simp [gaNo, results, Tryz.results52, go_sem]) rfl ⟨by rw [HV.out], ?_⟩
              repeat (first | with_reducible exact Below.refl _ _ | (with_reducible refine Below.setCell ?_ (by first | omega | (simp; done) | (simp; omega)) _) | (with_reducible refine Below.alloc ?_ (by first | omega | (simp; done) | (simp; omega)) _))
          · have q := H4'.out e4
            have d : decide ((5 : Int) ≤ (n : Int) - (k : Int)) = false := decide_eq_false (by omega)
            have e6' : (c == 6) = false := by rw [beq_iff_eq] at e4; subst e4; rfl
            clear e6
            go_enter Tryz.func52, Tryz.ntmps52
            go_wp2_with fail
            refine (l1In_any _ _ _ _).mono ?_
            rw [HIN.out]
            rintro e w1 ⟨rfl, rfl⟩
            go_wp2_with fail
            refine bodyPost_ret (v := gaNo) (by simp [gaNo, results, Tryz.results52, go_sem]) rfl ⟨by rw [HV.out], ?_⟩
            repeat (first | with_reducible exact Below.refl _ _ | (with_reducible refine Below.setCell ?_ (by first | omega | (simp; done) | (simp; omega)) _) | (with_reducible refine Below.alloc ?_ (by first | omega | (simp; done) | (simp; omega)) _))
        exact fin _ _ rfl rfl
  · have HIN := hid' (decide_eq_false hin)
    have HV : Hid (gaV zs at' = gaNo) := by
      by_cases h : at' < 0
      · exact gaV_neg h
      · obtain ⟨k, rfl⟩ := Int.eq_ofNat_of_zero_le (show 0 ≤ at' by omega)
        exact gaV_no (fun hh => by omega) (fun hh => by omega)
    clear hin
    go_enter Tryz.func52, Tryz.ntmps52
    go_wp2_with fail
    refine (l1In_any _ _ _ _).mono ?_
    rw [HIN.out]
    rintro e w1 ⟨rfl, rfl⟩
    go_wp2_with fail
    refine bodyPost_ret (v := gaNo) (by simp [gaNo, results, Tryz.results52, go_sem]) rfl ⟨by rw [HV.out], ?_⟩
    repeat (first | with_reducible exact Below.refl _ _ | (with_reducible refine Below.setCell ?_ (by first | omega | (simp; done) | (simp; omega)) _) | (with_reducible refine Below.alloc ?_ (by first | omega | (simp; done) | (simp; omega)) _))

end Go.Proofs.YtnchndcanhmbeaaGreatDoor
namespace Go.Proofs.YtnchndcanhmbeaaGreatDoor
open Go.RowKit

theorem gr_refl (w : World) (R : Nat) : w.grownBy w (some R) := ⟨rfl, rfl, rfl, Nat.le_refl _, fun _ _ _ => rfl⟩
set_option maxRecDepth 10000 in
set_option maxHeartbeats 4000000 in
theorem l8Get_good (R : Nat) (a : Option Addr) (cap : Nat) (zs : List Int) (p : Nat) (x : Int) (j : Nat) (w : World) (hX : Bx w R [.slice a zs.length cap, .int .i64 (p : Nat), .bool false]) (hB : Byt w a zs) (ho : Oct zs) (hl : zs.length ≤ 2000000) (hp : p ≤ zs.length) (hnc : zs.length ≤ cap) (hcap : cap ≤ 1000000000) (hr : rNum zs p = some (x, j)) :
    Calls Tryz.prog 29 #[.pointer (some ⟨R, 0, none⟩)] w fun e w' => e = .returned (.int .i64 x) ∧ Bx w' R [.slice a zs.length cap, .int .i64 (j : Nat), .bool false] ∧ w.grownBy w' (some R) := by
  have hR := hX.lt
  have c0 := hX.cel 0 _ rfl
  have c1 := hX.cel 1 _ rfl
  have c2 := hX.cel 2 _ rfl
  have f1 := hX.frz 1
  have f2 := hX.frz 2
  have HX := hidP hX
  have HN := hidP (fun W hb => by
    have h := sGetNum_b a cap zs p W (hB.later hb) ho (by omega) (by omega)
    rw [gn_r, hr] at h
    exact (show Calls Tryz.prog 51 #[.slice a zs.length cap, .int .i64 (p : Nat)] W fun e w' => e = .returned (.tuple #[.int .i64 x, .int .i64 ((j : Nat) : Int), .bool true]) ∧ Below W.heap.size W w' from h))
  clear hX hB hr
  go_enter Tryz.func29, Tryz.ntmps29
  go_wp2_with fail
  have HSx : Hid (∀ x, Below w.heap.size w x → (x.cell? ⟨R, 0, none⟩ = some (.slice a zs.length cap) ∧ x.cell? ⟨R, 1, none⟩ = some (.int .i64 p) ∧ Below w.heap.size w x)) := hidP fun x h =>
    ⟨(h.cell hR).trans c0, (h.cell hR).trans c1, h⟩
  refine wp_region_held_drew (S := (fun x => x.cell? ⟨R, 0, none⟩ = some (.slice a zs.length cap) ∧ x.cell? ⟨R, 1, none⟩ = some (.int .i64 p) ∧ Below w.heap.size w x)) (by kernel_rfl) ?_ (fun hHeld => ?_)
  · try dsimp only
    exact HSx.out _ ((Below.refl _ _).drew)
  refine tkA 0 7 (v := ?_) rfl (by kernel_rfl) (fun _ _ _ h => h) (by rfl) ?_ (by assumption) ?_; rotate_left; · (intro w hSw; (try dsimp only at hSw); go_simp; try with_reducible rfl)
  simp only [pa]
  refine tkA 1 8 (v := ?_) rfl (by kernel_rfl) (fun _ _ _ h => h) (by rfl) ?_ (by assumption) ?_; rotate_left; · (intro w hSw; (try dsimp only at hSw); go_simp; try with_reducible rfl)
  simp only [pa]
  refine tkA 2 9 (v := ?_) rfl (by kernel_rfl) (fun _ _ _ h => h) (by rfl) ?_ (by assumption) ?_; rotate_left; · (intro w hSw; (try dsimp only at hSw); go_simp; try with_reducible rfl)
  simp only [pa]
  refine tkA 3 10 (v := ?_) rfl (by kernel_rfl) (fun _ _ _ h => h) (by rfl) ?_ (by assumption) ?_; rotate_left; · (intro w hSw; (try dsimp only at hSw); go_simp; try with_reducible rfl)
  simp only [pa]
  refine tkA 4 11 (v := ?_) rfl (by kernel_rfl) (fun _ _ _ h => h) (by rfl) ?_ (by assumption) ?_; rotate_left; · (intro w hSw; (try dsimp only at hSw); go_simp; try with_reducible rfl)
  simp only [pa]
  refine tkA 5 12 (v := ?_) rfl (by kernel_rfl) (fun _ _ _ h => h) (by rfl) ?_ (by assumption) ?_; rotate_left; · (intro w hSw; (try dsimp only at hSw); go_simp; try with_reducible rfl)
  simp only [pa]
  refine tkA 6 13 (v := ?_) rfl (by kernel_rfl) (fun _ _ _ h => h) (by rfl) ?_ (by assumption) ?_; rotate_left; · (intro w hSw; (try dsimp only at hSw); go_simp; try with_reducible rfl)
  simp only [pa]
  refine tkA 7 14 (v := ?_) rfl (by kernel_rfl) (fun _ _ _ h => h) (by rfl) ?_ (by assumption) ?_; rotate_left; · (intro w hSw; (try dsimp only at hSw); go_simp; try with_reducible rfl)
  simp only [pa]
  refine wpAnyH_ready (rs := [8]) (by kernel_rfl) (by simp) ?_
  refine AllReadyH.cons rfl (fun K hK => ?_) AllReadyH.nil
  go_simp
  go_wp2_with (first | (go_at_call 51; refine (HN.out _ (hHeld.2.2)).mono ?_; rintro e w2 ⟨rfl, hb2⟩; have b2 := (hHeld.2.2).trans (hb2.mono (hHeld.2.2).size)))
  refine hK.out _ _ ?_ (fun hHeld => ?_)
  · try dsimp only
    exact HSx.out _ b2
  clear hK K
  refine tkA 9 6 (v := ?_) rfl (by kernel_rfl) (fun _ _ _ h => h) (by rfl) ?_ (by assumption) ?_; rotate_left; · (intro w hSw; (try dsimp only at hSw); go_simp; try with_reducible rfl)
  simp only [pa]
  refine tkA 10 16 (v := ?_) rfl (by kernel_rfl) (fun _ _ _ h => h) (by rfl) ?_ (by assumption) ?_; rotate_left; · (intro w hSw; (try dsimp only at hSw); go_simp; try with_reducible rfl)
  simp only [pa]
  refine tkA 11 17 (v := ?_) rfl (by kernel_rfl) (fun _ _ _ h => h) (by rfl) ?_ (by assumption) ?_; rotate_left; · (intro w hSw; (try dsimp only at hSw); go_simp; try with_reducible rfl)
  simp only [pa]
  refine tkA 12 18 (v := ?_) rfl (by kernel_rfl) (fun _ _ _ h => h) (by rfl) ?_ (by assumption) ?_; rotate_left; · (intro w hSw; (try dsimp only at hSw); go_simp; try with_reducible rfl)
  simp only [pa]
  refine tkA 13 3 (v := ?_) rfl (by kernel_rfl) (fun _ _ _ h => h) (by rfl) ?_ (by assumption) ?_; rotate_left; · (intro w hSw; (try dsimp only at hSw); go_simp; try with_reducible rfl)
  simp only [pa]
  refine tkA 14 4 (v := ?_) rfl (by kernel_rfl) (fun _ _ _ h => h) (by rfl) ?_ (by assumption) ?_; rotate_left; · (intro w hSw; (try dsimp only at hSw); go_simp; try with_reducible rfl)
  simp only [pa]
  refine tkA 15 5 (v := ?_) rfl (by kernel_rfl) (fun _ _ _ h => h) (by rfl) ?_ (by assumption) ?_; rotate_left; · (intro w hSw; (try dsimp only at hSw); go_simp; try with_reducible rfl)
  simp only [pa]
  have HE := hidP (hHeld.2.2)
  refine wpAnyH_done (by kernel_rfl) ?_ _
  clear hHeld
  have c1b := (HE.out.cell hR).trans c1
  have c2b := (HE.out.cell hR).trans c2
  have f1b := (HE.out.frozen hR).trans f1
  have f2b := (HE.out.frozen hR).trans f2
  clear c0 c1 c2 f1 f2 HSx
  go_wp2_with fail
  go_ret
  exact ⟨rfl, (HX.out.later HE.out).set 1 _ (.int .i64 j) rfl, gr_set' (gr_below (gr_refl w R) HE.out) 1 _⟩

set_option maxRecDepth 10000 in
set_option maxHeartbeats 4000000 in
theorem l8Get_bad (R : Nat) (a : Option Addr) (cap : Nat) (zs : List Int) (p : Nat) (bad : Bool) (w : World) (hX : Bx w R [.slice a zs.length cap, .int .i64 (p : Nat), .bool bad]) (hB : Byt w a zs) (ho : Oct zs) (hl : zs.length ≤ 2000000) (hp : p ≤ zs.length) (hnc : zs.length ≤ cap) (hcap : cap ≤ 1000000000) (hr : bad = true ∨ rNum zs p = none) :
    Calls Tryz.prog 29 #[.pointer (some ⟨R, 0, none⟩)] w fun e w' => e = .returned (.int .i64 0) ∧ Bx w' R [.slice a zs.length cap, .int .i64 (p : Nat), .bool true] ∧ w.grownBy w' (some R) := by
  have hR := hX.lt
  have c0 := hX.cel 0 _ rfl
  have c1 := hX.cel 1 _ rfl
  have c2 := hX.cel 2 _ rfl
  have f1 := hX.frz 1
  have f2 := hX.frz 2
  have HX := hidP hX
  obtain ⟨v, j, ok, hV, hok⟩ : ∃ (v : Int) (j : Int) (ok : Bool), gnV zs (p : Int) = .tuple #[.int .i64 v, .int .i64 j, .bool ok] ∧ (bad = true ∨ ok = false) := by
    rw [gn_r]
    cases hx : rNum zs p with
    | none => exact ⟨0, 0, false, rfl, Or.inr rfl⟩
    | some u =>
      obtain ⟨u1, u2⟩ := u
      rcases hr with hr | hr
      · exact ⟨u1, u2, true, rfl, Or.inl hr⟩
      · rw [hx] at hr; cases hr
  have HN := hidP (fun W hb => by
    have h := sGetNum_b a cap zs p W (hB.later hb) ho (by omega) (by omega)
    rw [hV] at h
    exact (show Calls Tryz.prog 51 #[.slice a zs.length cap, .int .i64 (p : Nat)] W fun e w' => e = .returned (.tuple #[.int .i64 v, .int .i64 j, .bool ok]) ∧ Below W.heap.size W w' from h))
  clear hX hB hr hV
  go_enter Tryz.func29, Tryz.ntmps29
  go_wp2_with fail
  have HSx : Hid (∀ x, Below w.heap.size w x → (x.cell? ⟨R, 0, none⟩ = some (.slice a zs.length cap) ∧ x.cell? ⟨R, 1, none⟩ = some (.int .i64 p) ∧ Below w.heap.size w x)) := hidP fun x h =>
    ⟨(h.cell hR).trans c0, (h.cell hR).trans c1, h⟩
  refine wp_region_held_drew (S := (fun x => x.cell? ⟨R, 0, none⟩ = some (.slice a zs.length cap) ∧ x.cell? ⟨R, 1, none⟩ = some (.int .i64 p) ∧ Below w.heap.size w x)) (by kernel_rfl) ?_ (fun hHeld => ?_)
  · try dsimp only
    exact HSx.out _ ((Below.refl _ _).drew)
  refine tkA 0 7 (v := ?_) rfl (by kernel_rfl) (fun _ _ _ h => h) (by rfl) ?_ (by assumption) ?_; rotate_left; · (intro w hSw; (try dsimp only at hSw); go_simp; try with_reducible rfl)
  simp only [pa]
  refine tkA 1 8 (v := ?_) rfl (by kernel_rfl) (fun _ _ _ h => h) (by rfl) ?_ (by assumption) ?_; rotate_left; · (intro w hSw; (try dsimp only at hSw); go_simp; try with_reducible rfl)
  simp only [pa]
  refine tkA 2 9 (v := ?_) rfl (by kernel_rfl) (fun _ _ _ h => h) (by rfl) ?_ (by assumption) ?_; rotate_left; · (intro w hSw; (try dsimp only at hSw); go_simp; try with_reducible rfl)
  simp only [pa]
  refine tkA 3 10 (v := ?_) rfl (by kernel_rfl) (fun _ _ _ h => h) (by rfl) ?_ (by assumption) ?_; rotate_left; · (intro w hSw; (try dsimp only at hSw); go_simp; try with_reducible rfl)
  simp only [pa]
  refine tkA 4 11 (v := ?_) rfl (by kernel_rfl) (fun _ _ _ h => h) (by rfl) ?_ (by assumption) ?_; rotate_left; · (intro w hSw; (try dsimp only at hSw); go_simp; try with_reducible rfl)
  simp only [pa]
  refine tkA 5 12 (v := ?_) rfl (by kernel_rfl) (fun _ _ _ h => h) (by rfl) ?_ (by assumption) ?_; rotate_left; · (intro w hSw; (try dsimp only at hSw); go_simp; try with_reducible rfl)
  simp only [pa]
  refine tkA 6 13 (v := ?_) rfl (by kernel_rfl) (fun _ _ _ h => h) (by rfl) ?_ (by assumption) ?_; rotate_left; · (intro w hSw; (try dsimp only at hSw); go_simp; try with_reducible rfl)
  simp only [pa]
  refine tkA 7 14 (v := ?_) rfl (by kernel_rfl) (fun _ _ _ h => h) (by rfl) ?_ (by assumption) ?_; rotate_left; · (intro w hSw; (try dsimp only at hSw); go_simp; try with_reducible rfl)
  simp only [pa]
  refine wpAnyH_ready (rs := [8]) (by kernel_rfl) (by simp) ?_
  refine AllReadyH.cons rfl (fun K hK => ?_) AllReadyH.nil
  go_simp
  go_wp2_with (first | (go_at_call 51; refine (HN.out _ (hHeld.2.2)).mono ?_; rintro e w2 ⟨rfl, hb2⟩; have b2 := (hHeld.2.2).trans (hb2.mono (hHeld.2.2).size)))
  refine hK.out _ _ ?_ (fun hHeld => ?_)
  · try dsimp only
    exact HSx.out _ b2
  clear hK K
  refine tkA 9 6 (v := ?_) rfl (by kernel_rfl) (fun _ _ _ h => h) (by rfl) ?_ (by assumption) ?_; rotate_left; · (intro w hSw; (try dsimp only at hSw); go_simp; try with_reducible rfl)
  simp only [pa]
  refine tkA 10 16 (v := ?_) rfl (by kernel_rfl) (fun _ _ _ h => h) (by rfl) ?_ (by assumption) ?_; rotate_left; · (intro w hSw; (try dsimp only at hSw); go_simp; try with_reducible rfl)
  simp only [pa]
  refine tkA 11 17 (v := ?_) rfl (by kernel_rfl) (fun _ _ _ h => h) (by rfl) ?_ (by assumption) ?_; rotate_left; · (intro w hSw; (try dsimp only at hSw); go_simp; try with_reducible rfl)
  simp only [pa]
  refine tkA 12 18 (v := ?_) rfl (by kernel_rfl) (fun _ _ _ h => h) (by rfl) ?_ (by assumption) ?_; rotate_left; · (intro w hSw; (try dsimp only at hSw); go_simp; try with_reducible rfl)
  simp only [pa]
  refine tkA 13 3 (v := ?_) rfl (by kernel_rfl) (fun _ _ _ h => h) (by rfl) ?_ (by assumption) ?_; rotate_left; · (intro w hSw; (try dsimp only at hSw); go_simp; try with_reducible rfl)
  simp only [pa]
  refine tkA 14 4 (v := ?_) rfl (by kernel_rfl) (fun _ _ _ h => h) (by rfl) ?_ (by assumption) ?_; rotate_left; · (intro w hSw; (try dsimp only at hSw); go_simp; try with_reducible rfl)
  simp only [pa]
  refine tkA 15 5 (v := ?_) rfl (by kernel_rfl) (fun _ _ _ h => h) (by rfl) ?_ (by assumption) ?_; rotate_left; · (intro w hSw; (try dsimp only at hSw); go_simp; try with_reducible rfl)
  simp only [pa]
  have HE := hidP (hHeld.2.2)
  refine wpAnyH_done (by kernel_rfl) ?_ _
  clear hHeld
  have c1b := (HE.out.cell hR).trans c1
  have c2b := (HE.out.cell hR).trans c2
  have f1b := (HE.out.frozen hR).trans f1
  have f2b := (HE.out.frozen hR).trans f2
  clear c0 c1 c2 f1 f2 HSx
  cases bad
  · have hk : ok = false := by rcases hok with h | h; cases h; exact h
    subst hk
    go_wp2_with fail
    go_ret
    exact ⟨rfl, (HX.out.later HE.out).set 2 _ (.bool true) rfl, gr_set' (gr_below (gr_refl w R) HE.out) 2 _⟩
  · go_wp2_with fail
    go_ret
    exact ⟨rfl, (HX.out.later HE.out).set 2 _ (.bool true) rfl, gr_set' (gr_below (gr_refl w R) HE.out) 2 _⟩

set_option maxRecDepth 10000 in
set_option maxHeartbeats 4000000 in
theorem l8Text_good (R : Nat) (a : Option Addr) (cap : Nat) (zs : List Int) (p : Nat) (x : ByteArray) (j : Nat) (w : World) (hX : Bx w R [.slice a zs.length cap, .int .i64 (p : Nat), .bool false]) (hB : Byt w a zs) (ho : Oct zs) (hp : p ≤ zs.length) (hnc : zs.length ≤ cap) (hcap : cap ≤ 1000000000) (hr : rTxt zs p = some (x, j)) :
    Calls Tryz.prog 32 #[.pointer (some ⟨R, 0, none⟩)] w fun e w' => e = .returned (.string x) ∧ Bx w' R [.slice a zs.length cap, .int .i64 (j : Nat), .bool false] ∧ w.grownBy w' (some R) := by
  have hR := hX.lt
  have c0 := hX.cel 0 _ rfl
  have c1 := hX.cel 1 _ rfl
  have c2 := hX.cel 2 _ rfl
  have f1 := hX.frz 1
  have f2 := hX.frz 2
  have HX := hidP hX
  have HN := hidP (fun W hb => by
    have h := sGetText_all a cap zs p W (hB.later hb) ho hnc hcap (by omega)
    rw [gt_r, hr] at h
    exact (show Calls Tryz.prog 53 #[.slice a zs.length cap, .int .i64 (p : Nat)] W fun e w' => e = .returned (.tuple #[.string x, .int .i64 ((j : Nat) : Int), .bool true]) ∧ Below W.heap.size W w' from h))
  clear hX hB hr
  go_enter Tryz.func32, Tryz.ntmps32
  go_wp2_with fail
  have HSx : Hid (∀ x, Below w.heap.size w x → (x.cell? ⟨R, 0, none⟩ = some (.slice a zs.length cap) ∧ x.cell? ⟨R, 1, none⟩ = some (.int .i64 p) ∧ Below w.heap.size w x)) := hidP fun x h =>
    ⟨(h.cell hR).trans c0, (h.cell hR).trans c1, h⟩
  refine wp_region_held_drew (S := (fun x => x.cell? ⟨R, 0, none⟩ = some (.slice a zs.length cap) ∧ x.cell? ⟨R, 1, none⟩ = some (.int .i64 p) ∧ Below w.heap.size w x)) (by kernel_rfl) ?_ (fun hHeld => ?_)
  · try dsimp only
    exact HSx.out _ ((Below.refl _ _).drew)
  refine tkA 0 7 (v := ?_) rfl (by kernel_rfl) (fun _ _ _ h => h) (by rfl) ?_ (by assumption) ?_; rotate_left; · (intro w hSw; (try dsimp only at hSw); go_simp; try with_reducible rfl)
  simp only [pa]
  refine tkA 1 8 (v := ?_) rfl (by kernel_rfl) (fun _ _ _ h => h) (by rfl) ?_ (by assumption) ?_; rotate_left; · (intro w hSw; (try dsimp only at hSw); go_simp; try with_reducible rfl)
  simp only [pa]
  refine tkA 2 9 (v := ?_) rfl (by kernel_rfl) (fun _ _ _ h => h) (by rfl) ?_ (by assumption) ?_; rotate_left; · (intro w hSw; (try dsimp only at hSw); go_simp; try with_reducible rfl)
  simp only [pa]
  refine tkA 3 10 (v := ?_) rfl (by kernel_rfl) (fun _ _ _ h => h) (by rfl) ?_ (by assumption) ?_; rotate_left; · (intro w hSw; (try dsimp only at hSw); go_simp; try with_reducible rfl)
  simp only [pa]
  refine tkA 4 11 (v := ?_) rfl (by kernel_rfl) (fun _ _ _ h => h) (by rfl) ?_ (by assumption) ?_; rotate_left; · (intro w hSw; (try dsimp only at hSw); go_simp; try with_reducible rfl)
  simp only [pa]
  refine tkA 5 12 (v := ?_) rfl (by kernel_rfl) (fun _ _ _ h => h) (by rfl) ?_ (by assumption) ?_; rotate_left; · (intro w hSw; (try dsimp only at hSw); go_simp; try with_reducible rfl)
  simp only [pa]
  refine tkA 6 13 (v := ?_) rfl (by kernel_rfl) (fun _ _ _ h => h) (by rfl) ?_ (by assumption) ?_; rotate_left; · (intro w hSw; (try dsimp only at hSw); go_simp; try with_reducible rfl)
  simp only [pa]
  refine tkA 7 14 (v := ?_) rfl (by kernel_rfl) (fun _ _ _ h => h) (by rfl) ?_ (by assumption) ?_; rotate_left; · (intro w hSw; (try dsimp only at hSw); go_simp; try with_reducible rfl)
  simp only [pa]
  refine wpAnyH_ready (rs := [8]) (by kernel_rfl) (by simp) ?_
  refine AllReadyH.cons rfl (fun K hK => ?_) AllReadyH.nil
  go_simp
  go_wp2_with (first | (go_at_call 53; refine (HN.out _ (hHeld.2.2)).mono ?_; rintro e w2 ⟨rfl, hb2⟩; have b2 := (hHeld.2.2).trans (hb2.mono (hHeld.2.2).size)))
  refine hK.out _ _ ?_ (fun hHeld => ?_)
  · try dsimp only
    exact HSx.out _ b2
  clear hK K
  refine tkA 9 6 (v := ?_) rfl (by kernel_rfl) (fun _ _ _ h => h) (by rfl) ?_ (by assumption) ?_; rotate_left; · (intro w hSw; (try dsimp only at hSw); go_simp; try with_reducible rfl)
  simp only [pa]
  refine tkA 10 16 (v := ?_) rfl (by kernel_rfl) (fun _ _ _ h => h) (by rfl) ?_ (by assumption) ?_; rotate_left; · (intro w hSw; (try dsimp only at hSw); go_simp; try with_reducible rfl)
  simp only [pa]
  refine tkA 11 17 (v := ?_) rfl (by kernel_rfl) (fun _ _ _ h => h) (by rfl) ?_ (by assumption) ?_; rotate_left; · (intro w hSw; (try dsimp only at hSw); go_simp; try with_reducible rfl)
  simp only [pa]
  refine tkA 12 18 (v := ?_) rfl (by kernel_rfl) (fun _ _ _ h => h) (by rfl) ?_ (by assumption) ?_; rotate_left; · (intro w hSw; (try dsimp only at hSw); go_simp; try with_reducible rfl)
  simp only [pa]
  refine tkA 13 3 (v := ?_) rfl (by kernel_rfl) (fun _ _ _ h => h) (by rfl) ?_ (by assumption) ?_; rotate_left; · (intro w hSw; (try dsimp only at hSw); go_simp; try with_reducible rfl)
  simp only [pa]
  refine tkA 14 4 (v := ?_) rfl (by kernel_rfl) (fun _ _ _ h => h) (by rfl) ?_ (by assumption) ?_; rotate_left; · (intro w hSw; (try dsimp only at hSw); go_simp; try with_reducible rfl)
  simp only [pa]
  refine tkA 15 5 (v := ?_) rfl (by kernel_rfl) (fun _ _ _ h => h) (by rfl) ?_ (by assumption) ?_; rotate_left; · (intro w hSw; (try dsimp only at hSw); go_simp; try with_reducible rfl)
  simp only [pa]
  have HE := hidP (hHeld.2.2)
  refine wpAnyH_done (by kernel_rfl) ?_ _
  clear hHeld
  have c1b := (HE.out.cell hR).trans c1
  have c2b := (HE.out.cell hR).trans c2
  have f1b := (HE.out.frozen hR).trans f1
  have f2b := (HE.out.frozen hR).trans f2
  clear c0 c1 c2 f1 f2 HSx
  go_wp2_with fail
  go_ret
  exact ⟨rfl, (HX.out.later HE.out).set 1 _ (.int .i64 j) rfl, gr_set' (gr_below (gr_refl w R) HE.out) 1 _⟩

set_option maxRecDepth 10000 in
set_option maxHeartbeats 4000000 in
theorem l8Text_bad (R : Nat) (a : Option Addr) (cap : Nat) (zs : List Int) (p : Nat) (bad : Bool) (w : World) (hX : Bx w R [.slice a zs.length cap, .int .i64 (p : Nat), .bool bad]) (hB : Byt w a zs) (ho : Oct zs) (hp : p ≤ zs.length) (hnc : zs.length ≤ cap) (hcap : cap ≤ 1000000000) (hr : bad = true ∨ rTxt zs p = none) :
    Calls Tryz.prog 32 #[.pointer (some ⟨R, 0, none⟩)] w fun e w' => e = .returned (.string ⟨#[]⟩) ∧ Bx w' R [.slice a zs.length cap, .int .i64 (p : Nat), .bool true] ∧ w.grownBy w' (some R) := by
  have hR := hX.lt
  have c0 := hX.cel 0 _ rfl
  have c1 := hX.cel 1 _ rfl
  have c2 := hX.cel 2 _ rfl
  have f1 := hX.frz 1
  have f2 := hX.frz 2
  have HX := hidP hX
  obtain ⟨v, j, ok, hV, hok⟩ : ∃ (v : ByteArray) (j : Int) (ok : Bool), gtV zs (p : Int) = .tuple #[.string v, .int .i64 j, .bool ok] ∧ (bad = true ∨ ok = false) := by
    rw [gt_r]
    cases hx : rTxt zs p with
    | none => exact ⟨⟨#[]⟩, 0, false, rfl, Or.inr rfl⟩
    | some u =>
      obtain ⟨u1, u2⟩ := u
      rcases hr with hr | hr
      · exact ⟨u1, u2, true, rfl, Or.inl hr⟩
      · rw [hx] at hr; cases hr
  have HN := hidP (fun W hb => by
    have h := sGetText_all a cap zs p W (hB.later hb) ho hnc hcap (by omega)
    rw [hV] at h
    exact (show Calls Tryz.prog 53 #[.slice a zs.length cap, .int .i64 (p : Nat)] W fun e w' => e = .returned (.tuple #[.string v, .int .i64 j, .bool ok]) ∧ Below W.heap.size W w' from h))
  clear hX hB hr hV
  go_enter Tryz.func32, Tryz.ntmps32
  go_wp2_with fail
  have HSx : Hid (∀ x, Below w.heap.size w x → (x.cell? ⟨R, 0, none⟩ = some (.slice a zs.length cap) ∧ x.cell? ⟨R, 1, none⟩ = some (.int .i64 p) ∧ Below w.heap.size w x)) := hidP fun x h =>
    ⟨(h.cell hR).trans c0, (h.cell hR).trans c1, h⟩
  refine wp_region_held_drew (S := (fun x => x.cell? ⟨R, 0, none⟩ = some (.slice a zs.length cap) ∧ x.cell? ⟨R, 1, none⟩ = some (.int .i64 p) ∧ Below w.heap.size w x)) (by kernel_rfl) ?_ (fun hHeld => ?_)
  · try dsimp only
    exact HSx.out _ ((Below.refl _ _).drew)
  refine tkA 0 7 (v := ?_) rfl (by kernel_rfl) (fun _ _ _ h => h) (by rfl) ?_ (by assumption) ?_; rotate_left; · (intro w hSw; (try dsimp only at hSw); go_simp; try with_reducible rfl)
  simp only [pa]
  refine tkA 1 8 (v := ?_) rfl (by kernel_rfl) (fun _ _ _ h => h) (by rfl) ?_ (by assumption) ?_; rotate_left; · (intro w hSw; (try dsimp only at hSw); go_simp; try with_reducible rfl)
  simp only [pa]
  refine tkA 2 9 (v := ?_) rfl (by kernel_rfl) (fun _ _ _ h => h) (by rfl) ?_ (by assumption) ?_; rotate_left; · (intro w hSw; (try dsimp only at hSw); go_simp; try with_reducible rfl)
  simp only [pa]
  refine tkA 3 10 (v := ?_) rfl (by kernel_rfl) (fun _ _ _ h => h) (by rfl) ?_ (by assumption) ?_; rotate_left; · (intro w hSw; (try dsimp only at hSw); go_simp; try with_reducible rfl)
  simp only [pa]
  refine tkA 4 11 (v := ?_) rfl (by kernel_rfl) (fun _ _ _ h => h) (by rfl) ?_ (by assumption) ?_; rotate_left; · (intro w hSw; (try dsimp only at hSw); go_simp; try with_reducible rfl)
  simp only [pa]
  refine tkA 5 12 (v := ?_) rfl (by kernel_rfl) (fun _ _ _ h => h) (by rfl) ?_ (by assumption) ?_; rotate_left; · (intro w hSw; (try dsimp only at hSw); go_simp; try with_reducible rfl)
  simp only [pa]
  refine tkA 6 13 (v := ?_) rfl (by kernel_rfl) (fun _ _ _ h => h) (by rfl) ?_ (by assumption) ?_; rotate_left; · (intro w hSw; (try dsimp only at hSw); go_simp; try with_reducible rfl)
  simp only [pa]
  refine tkA 7 14 (v := ?_) rfl (by kernel_rfl) (fun _ _ _ h => h) (by rfl) ?_ (by assumption) ?_; rotate_left; · (intro w hSw; (try dsimp only at hSw); go_simp; try with_reducible rfl)
  simp only [pa]
  refine wpAnyH_ready (rs := [8]) (by kernel_rfl) (by simp) ?_
  refine AllReadyH.cons rfl (fun K hK => ?_) AllReadyH.nil
  go_simp
  go_wp2_with (first | (go_at_call 53; refine (HN.out _ (hHeld.2.2)).mono ?_; rintro e w2 ⟨rfl, hb2⟩; have b2 := (hHeld.2.2).trans (hb2.mono (hHeld.2.2).size)))
  refine hK.out _ _ ?_ (fun hHeld => ?_)
  · try dsimp only
    exact HSx.out _ b2
  clear hK K
  refine tkA 9 6 (v := ?_) rfl (by kernel_rfl) (fun _ _ _ h => h) (by rfl) ?_ (by assumption) ?_; rotate_left; · (intro w hSw; (try dsimp only at hSw); go_simp; try with_reducible rfl)
  simp only [pa]
  refine tkA 10 16 (v := ?_) rfl (by kernel_rfl) (fun _ _ _ h => h) (by rfl) ?_ (by assumption) ?_; rotate_left; · (intro w hSw; (try dsimp only at hSw); go_simp; try with_reducible rfl)
  simp only [pa]
  refine tkA 11 17 (v := ?_) rfl (by kernel_rfl) (fun _ _ _ h => h) (by rfl) ?_ (by assumption) ?_; rotate_left; · (intro w hSw; (try dsimp only at hSw); go_simp; try with_reducible rfl)
  simp only [pa]
  refine tkA 12 18 (v := ?_) rfl (by kernel_rfl) (fun _ _ _ h => h) (by rfl) ?_ (by assumption) ?_; rotate_left; · (intro w hSw; (try dsimp only at hSw); go_simp; try with_reducible rfl)
  simp only [pa]
  refine tkA 13 3 (v := ?_) rfl (by kernel_rfl) (fun _ _ _ h => h) (by rfl) ?_ (by assumption) ?_; rotate_left; · (intro w hSw; (try dsimp only at hSw); go_simp; try with_reducible rfl)
  simp only [pa]
  refine tkA 14 4 (v := ?_) rfl (by kernel_rfl) (fun _ _ _ h => h) (by rfl) ?_ (by assumption) ?_; rotate_left; · (intro w hSw; (try dsimp only at hSw); go_simp; try with_reducible rfl)
  simp only [pa]
  refine tkA 15 5 (v := ?_) rfl (by kernel_rfl) (fun _ _ _ h => h) (by rfl) ?_ (by assumption) ?_; rotate_left; · (intro w hSw; (try dsimp only at hSw); go_simp; try with_reducible rfl)
  simp only [pa]
  have HE := hidP (hHeld.2.2)
  refine wpAnyH_done (by kernel_rfl) ?_ _
  clear hHeld
  have c1b := (HE.out.cell hR).trans c1
  have c2b := (HE.out.cell hR).trans c2
  have f1b := (HE.out.frozen hR).trans f1
  have f2b := (HE.out.frozen hR).trans f2
  clear c0 c1 c2 f1 f2 HSx
  cases bad
  · have hk : ok = false := by rcases hok with h | h; cases h; exact h
    subst hk
    go_wp2_with fail
    go_ret
    exact ⟨rfl, (HX.out.later HE.out).set 2 _ (.bool true) rfl, gr_set' (gr_below (gr_refl w R) HE.out) 2 _⟩
  · go_wp2_with fail
    go_ret
    exact ⟨rfl, (HX.out.later HE.out).set 2 _ (.bool true) rfl, gr_set' (gr_below (gr_refl w R) HE.out) 2 _⟩

end Go.Proofs.YtnchndcanhmbeaaGreatDoor
namespace Go.Proofs.YtnchndcanhmbeaaGreatDoor
open Go.RowKit

set_option maxRecDepth 10000 in
set_option maxHeartbeats 1000000 in
theorem l3Same_any (a b : Option Addr) (c d : Nat) (xs ys : List Int) (w : World) (ha : Byt w a xs) (hb : Byt w b ys) (hl : xs.length ≤ 9000000000) (hm : ys.length ≤ 9000000000) :
    Calls Tryz.prog 33 #[.slice a xs.length c, .slice b ys.length d] w fun e w' => e = .returned (.bool (eqL xs ys)) ∧ Below w.heap.size w w' := by
  obtain ⟨n, hn⟩ : ∃ n, n = xs.length := ⟨_, rfl⟩
  obtain ⟨m, hmm⟩ : ∃ m, m = ys.length := ⟨_, rfl⟩
  rw [← hn, ← hmm]
  rw [← hn] at hl
  rw [← hmm] at hm
  by_cases hnm : n = m
  · subst hnm
    have HA : Hid (Byt w a xs) := ha
    have HB : Hid (Byt w b ys) := hb
    have HN : Hid (n = xs.length) := hn
    have HM : Hid (n = ys.length) := hmm
    clear ha hb hn hmm
    go_enter Tryz.func33, Tryz.ntmps33
    go_wp2
    go_loopw [5] (fun t5 wr => ∃ k : Nat, k ≤ n ∧ t5 = .int .i64 k ∧ (∀ j, j < k → xs[j]? = ys[j]?) ∧ Below w.heap.size w wr) (fun t5 _ => n - (intOf t5).toNat)
    case atStart => exact ⟨0, Nat.zero_le _, rfl, fun j hj => absurd hj (Nat.not_lt_zero j), Below.refl _ _⟩
    case round =>
      obtain ⟨k, hk, rfl, heq, hbel⟩ := hrel
      have HE : Hid (∀ j, j < k → xs[j]? = ys[j]?) := heq
      have HW : Hid (Below w.heap.size w wr) := hbel
      by_cases hlt : k < n
      · obtain ⟨p, o, x, rfl, hp, hc, hx⟩ := HA.out k (by rw [← HN.out]; exact hlt)
        obtain ⟨q, r, y, rfl, hq, hd, hy⟩ := HB.out k (by rw [← HM.out]; exact hlt)
        have c1 : wr.cell? ⟨p, o + k, none⟩ = some (.int .u8 x) := (hbel.cell hp).trans hc
        have c2 : wr.cell? ⟨q, r + k, none⟩ = some (.int .u8 y) := (hbel.cell hq).trans hd
        have HX : Hid (xs[k]? = some x) := hx
        have HY : Hid (ys[k]? = some y) := hy
        clear hc hd heq hbel hx hy
        by_cases hxy : x = y
        · subst hxy
          have hb1 : (x != x) = false := by simp
          go_wp2_with fail
          go_region
          all_goals
            go_wp2
            go_roundw
            case rel =>
              refine ⟨k + 1, by omega, by go_num, fun j hj => ?_, HW.out.drew⟩
              by_cases hjk : j = k
              · subst hjk; rw [HX.out, HY.out]
              · exact HE.out j (by omega)
            case measure => simp [intOf]; omega
        · have hb1 : (x != y) = true := by simp [hxy]
          have HF : Hid (eqL xs ys = false) := eqL_at k HX.out HY.out hxy
          clear hxy
          go_wp2_with fail
          go_region
          all_goals
            go_wp2
            go_ret
            rw [HF.out]
            exact ⟨rfl, HW.out.drew⟩
      · have HF : Hid (eqL xs ys = true) := eqL_all (by rw [← HN.out, ← HM.out]) (fun j hj => heq j (by have := HN.out; omega))
        clear heq hbel
        go_wp2
        go_ret
        rw [HF.out]
        exact ⟨rfl, HW.out⟩
  · have HF : Hid (eqL xs ys = false) := eqL_len (by rw [← hn, ← hmm]; exact hnm)
    have hq : ((n : Int) != (m : Int)) = true := by rw [bne_iff_ne]; omega
    clear ha hb hn hmm hnm
    go_enter Tryz.func33, Tryz.ntmps33
    go_wp2
    go_ret
    rw [HF.out]
    exact ⟨rfl, Below.refl _ _⟩

set_option maxRecDepth 10000 in
set_option maxHeartbeats 1000000 in
theorem equal_any (a b : Option Addr) (c d : Nat) (xs ys : List Int) (w : World) (ha : Byt w a xs) (hb : Byt w b ys) (hl : xs.length ≤ 9000000000) (hm : ys.length ≤ 9000000000) :
    Calls Tryz.prog 36 #[.slice a xs.length c, .slice b ys.length d] w fun e w' => e = .returned (.bool (eqL xs ys)) ∧ Below w.heap.size w w' := by
  obtain ⟨n, hn⟩ : ∃ n, n = xs.length := ⟨_, rfl⟩
  obtain ⟨m, hmm⟩ : ∃ m, m = ys.length := ⟨_, rfl⟩
  rw [← hn, ← hmm]
  rw [← hn] at hl
  rw [← hmm] at hm
  by_cases hnm : n = m
  · subst hnm
    have HA : Hid (Byt w a xs) := ha
    have HB : Hid (Byt w b ys) := hb
    have HN : Hid (n = xs.length) := hn
    have HM : Hid (n = ys.length) := hmm
    clear ha hb hn hmm
    go_enter Tryz.func36, Tryz.ntmps36
    go_wp2
    go_loopw [13] (fun t5 wr => ∃ k : Nat, k ≤ n ∧ t5 = .int .i64 k ∧ (∀ j, j < k → xs[j]? = ys[j]?) ∧ Below w.heap.size w wr) (fun t5 _ => n - (intOf t5).toNat)
    case atStart => exact ⟨0, Nat.zero_le _, rfl, fun j hj => absurd hj (Nat.not_lt_zero j), Below.refl _ _⟩
    case round =>
      obtain ⟨k, hk, rfl, heq, hbel⟩ := hrel
      have HE : Hid (∀ j, j < k → xs[j]? = ys[j]?) := heq
      have HW : Hid (Below w.heap.size w wr) := hbel
      by_cases hlt : k < n
      · obtain ⟨p, o, x, rfl, hp, hc, hx⟩ := HA.out k (by rw [← HN.out]; exact hlt)
        obtain ⟨q, r, y, rfl, hq, hd, hy⟩ := HB.out k (by rw [← HM.out]; exact hlt)
        have c1 : wr.cell? ⟨p, o + k, none⟩ = some (.int .u8 x) := (hbel.cell hp).trans hc
        have c2 : wr.cell? ⟨q, r + k, none⟩ = some (.int .u8 y) := (hbel.cell hq).trans hd
        have HX : Hid (xs[k]? = some x) := hx
        have HY : Hid (ys[k]? = some y) := hy
        clear hc hd heq hbel hx hy
        by_cases hxy : x = y
        · subst hxy
          have hb1 : (x != x) = false := by simp
          go_wp2_with fail
          go_region
          all_goals
            go_wp2
            go_roundw
            case rel =>
              refine ⟨k + 1, by omega, by go_num, fun j hj => ?_, HW.out.drew⟩
              by_cases hjk : j = k
              · subst hjk; rw [HX.out, HY.out]
              · exact HE.out j (by omega)
            case measure => simp [intOf]; omega
        · have hb1 : (x != y) = true := by simp [hxy]
          have HF : Hid (eqL xs ys = false) := eqL_at k HX.out HY.out hxy
          clear hxy
          go_wp2_with fail
          go_region
          all_goals
            go_wp2
            go_ret
            rw [HF.out]
            exact ⟨rfl, HW.out.drew⟩
      · have HF : Hid (eqL xs ys = true) := eqL_all (by rw [← HN.out, ← HM.out]) (fun j hj => heq j (by have := HN.out; omega))
        clear heq hbel
        go_wp2
        go_ret
        rw [HF.out]
        exact ⟨rfl, HW.out⟩
  · have HF : Hid (eqL xs ys = false) := eqL_len (by rw [← hn, ← hmm]; exact hnm)
    have hq : ((n : Int) != (m : Int)) = true := by rw [bne_iff_ne]; omega
    clear ha hb hn hmm hnm
    go_enter Tryz.func36, Tryz.ntmps36
    go_wp2
    go_ret
    rw [HF.out]
    exact ⟨rfl, Below.refl _ _⟩

end Go.Proofs.YtnchndcanhmbeaaGreatDoor
namespace Go.Proofs.YtnchndcanhmbeaaGreatDoor
open Go.RowKit

theorem alloc_belowR (w : World) (o : Obj) : Below w.heap.size w (w.alloc o) := (Below.refl _ _).alloc (Nat.le_refl _) o
theorem alloc_ltR (w : World) (o : Obj) : w.heap.size < (w.alloc o).heap.size := by simp
theorem boxA3 (w : World) (t : TypeId) : (w.alloc (.cells #[.bool false, .int .i64 0, .int .i64 0] t)).cell? ⟨w.heap.size, 0, none⟩ = some (.bool false) ∧ (w.alloc (.cells #[.bool false, .int .i64 0, .int .i64 0] t)).cell? ⟨w.heap.size, 1, none⟩ = some (.int .i64 0) ∧ (w.alloc (.cells #[.bool false, .int .i64 0, .int .i64 0] t)).cell? ⟨w.heap.size, 2, none⟩ = some (.int .i64 0) := ⟨by simp [go_sem], by simp [go_sem], by simp [go_sem]⟩
theorem frzA3 (w : World) (t : TypeId) (o : Nat) : (w.alloc (.cells #[.bool false, .int .i64 0, .int .i64 0] t)).frozen? ⟨w.heap.size, o, none⟩ = false := by simp [go_sem]
theorem drew_cell (w : World) (p : Addr) : w.drew.cell? p = w.cell? p := by simp [go_sem]
theorem drew_frozen (w : World) (p : Addr) : w.drew.frozen? p = w.frozen? p := by simp [go_sem]
theorem drew_size_lt {w : World} {n : Nat} (h : n < w.heap.size) : n < w.drew.heap.size := by simpa using h

/-- How the reading of an address ends. -/
def AdE (R : Nat) (a : Option Addr) (cap : Nat) (zs : List Int) (p : Nat) (bad : Bool) (s : Bool) (h l j : Int) (ok : Bool) (e : Ending) (w' : World) : Prop :=
  (bad = false ∧ ok = true ∧ e = .returned (.agg #[.bool s, .int .i64 h, .int .i64 l]) ∧ Bx w' R [.slice a zs.length cap, .int .i64 j, .bool false]) ∨ ((bad = true ∨ ok = false) ∧ e = .returned (.agg #[.bool false, .int .i64 0, .int .i64 0]) ∧ Bx w' R [.slice a zs.length cap, .int .i64 (p : Nat), .bool true])
set_option maxRecDepth 10000 in
set_option maxHeartbeats 8000000 in
theorem l8Addr_of (R : Nat) (a : Option Addr) (cap : Nat) (zs : List Int) (p : Nat) (bad : Bool) (s : Bool) (h l j : Int) (ok : Bool) (w : World) (hX : Bx w R [.slice a zs.length cap, .int .i64 (p : Nat), .bool bad]) (hB : Byt w a zs) (ho : Oct zs) (hl : zs.length ≤ 2000000)
    (hV : gaV zs (p : Int) = .tuple #[.agg #[.bool s, .int .i64 h, .int .i64 l], .int .i64 j, .bool ok]) :
    Calls Tryz.prog 31 #[.pointer (some ⟨R, 0, none⟩)] w fun e w' => AdE R a cap zs p bad s h l j ok e w' ∧ w.grownBy w' (some R) := by
  have hR := hX.lt
  have HX := hidP (hX.later (alloc_belowR w (.cells #[.bool false, .int .i64 0, .int .i64 0] 31)))
  have HN := hidP (fun W hb => by
    have h := sGetAddr_all a cap zs p W (hB.later hb) ho (by omega)
    rw [hV] at h
    exact h)
  clear hX hB hV
  go_enter Tryz.func31, Tryz.ntmps31
  go_wp2_with fail
  obtain ⟨r0, r1, r2⟩ := boxA3 w 31
  have rF := frzA3 w 31
  have hM := alloc_belowR w (.cells #[.bool false, .int .i64 0, .int .i64 0] 31)
  have rL : w.heap.size < (w.alloc (.cells #[.bool false, .int .i64 0, .int .i64 0] 31)).heap.size := by simp
  generalize w.alloc (.cells #[.bool false, .int .i64 0, .int .i64 0] 31) = W at *
  have HM := hidP hM
  have c0 := HX.out.cel 0 _ rfl
  have c1 := HX.out.cel 1 _ rfl
  have hRW : R < W.heap.size := HX.out.lt
  clear hM
  go_cut [3, 4, 5] (fun t3 t4 t5 Y => ∃ b : Nat, t3 = .pointer (some ⟨b, 0, none⟩) ∧ t4 = .int .i64 j ∧ t5 = .bool ok ∧ W.heap.size ≤ b ∧ b < Y.heap.size ∧ Y.cell? ⟨b, 0, none⟩ = some (.bool s) ∧ Y.cell? ⟨b, 1, none⟩ = some (.int .i64 h) ∧ Y.cell? ⟨b, 2, none⟩ = some (.int .i64 l) ∧ Below W.heap.size W Y)
  case first =>
    have HSx : Hid (∀ x, Below W.heap.size W x → (x.cell? ⟨R, 0, none⟩ = some (.slice a zs.length cap) ∧ x.cell? ⟨R, 1, none⟩ = some (.int .i64 p) ∧ Below W.heap.size W x)) := hidP fun x h =>
      ⟨(h.cell hRW).trans c0, (h.cell hRW).trans c1, h⟩
    refine wp_region_held_drew (S := (fun x => x.cell? ⟨R, 0, none⟩ = some (.slice a zs.length cap) ∧ x.cell? ⟨R, 1, none⟩ = some (.int .i64 p) ∧ Below W.heap.size W x)) (by kernel_rfl) ?_ (fun hHeld => ?_)
    · try dsimp only
      exact HSx.out _ (Below.refl _ _).drew
    refine tkA 0 7 (v := ?_) rfl (by kernel_rfl) (fun _ _ _ h => h) (by rfl) ?_ (by assumption) ?_; rotate_left; · (intro w hSw; (try dsimp only at hSw); go_simp; try with_reducible rfl)
    simp only [pa]
    refine tkA 1 8 (v := ?_) rfl (by kernel_rfl) (fun _ _ _ h => h) (by rfl) ?_ (by assumption) ?_; rotate_left; · (intro w hSw; (try dsimp only at hSw); go_simp; try with_reducible rfl)
    simp only [pa]
    refine tkA 2 9 (v := ?_) rfl (by kernel_rfl) (fun _ _ _ h => h) (by rfl) ?_ (by assumption) ?_; rotate_left; · (intro w hSw; (try dsimp only at hSw); go_simp; try with_reducible rfl)
    simp only [pa]
    refine tkA 3 10 (v := ?_) rfl (by kernel_rfl) (fun _ _ _ h => h) (by rfl) ?_ (by assumption) ?_; rotate_left; · (intro w hSw; (try dsimp only at hSw); go_simp; try with_reducible rfl)
    simp only [pa]
    refine tkA 4 11 (v := ?_) rfl (by kernel_rfl) (fun _ _ _ h => h) (by rfl) ?_ (by assumption) ?_; rotate_left; · (intro w hSw; (try dsimp only at hSw); go_simp; try with_reducible rfl)
    simp only [pa]
    refine tkA 5 12 (v := ?_) rfl (by kernel_rfl) (fun _ _ _ h => h) (by rfl) ?_ (by assumption) ?_; rotate_left; · (intro w hSw; (try dsimp only at hSw); go_simp; try with_reducible rfl)
    simp only [pa]
    refine tkA 6 13 (v := ?_) rfl (by kernel_rfl) (fun _ _ _ h => h) (by rfl) ?_ (by assumption) ?_; rotate_left; · (intro w hSw; (try dsimp only at hSw); go_simp; try with_reducible rfl)
    simp only [pa]
    refine tkA 7 14 (v := ?_) rfl (by kernel_rfl) (fun _ _ _ h => h) (by rfl) ?_ (by assumption) ?_; rotate_left; · (intro w hSw; (try dsimp only at hSw); go_simp; try with_reducible rfl)
    simp only [pa]
    refine wpAnyH_ready (rs := [8, 13]) (by kernel_rfl) (by simp) ?_
    refine AllReadyH.cons rfl (fun K hK => ?_) (AllReadyH.cons rfl (fun K hK => ?_) AllReadyH.nil)
    · go_simp
      go_wp2_with (first | (go_at_call 52; refine (HN.out _ (HM.out.trans ((hHeld.2.2).mono HM.out.size))).mono ?_; rintro e w3 ⟨rfl, hb3⟩; have b3 := (hHeld.2.2).trans (hb3.mono (hHeld.2.2).size)))
      refine hK.out _ _ ?_ (fun hHeld => ?_)
      · try dsimp only
        exact HSx.out _ b3
      clear hK K
      refine tkA 9 6 (v := ?_) rfl (by kernel_rfl) (fun _ _ _ h => h) (by rfl) ?_ (by assumption) ?_; rotate_left; · (intro w hSw; (try dsimp only at hSw); go_simp; try with_reducible rfl)
      simp only [pa]
      refine tkA 10 16 (v := ?_) rfl (by kernel_rfl) (fun _ _ _ h => h) (by rfl) ?_ (by assumption) ?_; rotate_left; · (intro w hSw; (try dsimp only at hSw); go_simp; try with_reducible rfl)
      simp only [pa]
      refine tkA 11 17 (v := ?_) rfl (by kernel_rfl) (fun _ _ _ h => h) (by rfl) ?_ (by assumption) ?_; rotate_left; · (intro w hSw; (try dsimp only at hSw); go_simp; try with_reducible rfl)
      simp only [pa]
      refine tkA 12 18 (v := ?_) rfl (by kernel_rfl) (fun _ _ _ h => h) (by rfl) ?_ (by assumption) ?_; rotate_left; · (intro w hSw; (try dsimp only at hSw); go_simp; try with_reducible rfl)
      simp only [pa]
      refine wpAnyH_ready (rs := [13]) (by kernel_rfl) (by simp) ?_
      refine AllReadyH.cons rfl (fun K hK => ?_) AllReadyH.nil
      go_simp
      obtain ⟨z4x0, z4x1, z4x2⟩ := boxA3 w3 31
      have z4F := frzA3 w3 31
      have z4B := alloc_belowR w3 (.cells #[.bool false, .int .i64 0, .int .i64 0] 31)
      have z4L := alloc_ltR w3 (.cells #[.bool false, .int .i64 0, .int .i64 0] 31)
      have z4M := (hHeld.2.2).trans (z4B.mono (hHeld.2.2).size)
      generalize w3.alloc (.cells #[.bool false, .int .i64 0, .int .i64 0] 31) = w4 at *
      refine hK.out _ _ ?_ (fun hHeld => ?_)
      · try dsimp only
        exact HSx.out _ z4M
      clear hK K
      have bl4 : W.heap.size ≤ w3.heap.size := b3.size
      refine wpAnyH_ready (rs := [14]) (by kernel_rfl) (by simp) ?_
      refine AllReadyH.cons rfl (fun K hK => ?_) AllReadyH.nil
      go_simp
      refine hK.out _ _ ?_ (fun hHeld => ?_)
      · try dsimp only
        refine HSx.out _ ?_
        repeat (with_reducible refine Below.setCell ?_ ?_ _; rotate_left; (focus (exact (bl4))))
        exact (hHeld.2.2)
      clear hK K
      refine tkA 15 4 (v := ?_) rfl (by kernel_rfl) (fun _ _ _ h => h) (by rfl) ?_ (by assumption) ?_; rotate_left; · (intro w hSw; (try dsimp only at hSw); go_simp; try with_reducible rfl)
      simp only [pa]
      refine tkA 16 5 (v := ?_) rfl (by kernel_rfl) (fun _ _ _ h => h) (by rfl) ?_ (by assumption) ?_; rotate_left; · (intro w hSw; (try dsimp only at hSw); go_simp; try with_reducible rfl)
      simp only [pa]
      have HE := hidP (hHeld.2.2)
      refine wpAnyH_done (by kernel_rfl) ?_ _
      clear hHeld
      go_wp2_with fail
      go_meet
      refine ⟨_, rfl, rfl, rfl, bl4, ?_, ?_, ?_, ?_, HE.out⟩
      · simp; exact z4L
      all_goals (simp [go_sem, z4x0, z4x1, z4x2])
    · go_simp
      obtain ⟨z3x0, z3x1, z3x2⟩ := boxA3 W 31
      have z3F := frzA3 W 31
      have z3B := alloc_belowR W (.cells #[.bool false, .int .i64 0, .int .i64 0] 31)
      have z3L := alloc_ltR W (.cells #[.bool false, .int .i64 0, .int .i64 0] 31)
      have z3x0 := (drew_cell (W.alloc (.cells #[.bool false, .int .i64 0, .int .i64 0] 31)) _).trans z3x0
      have z3x1 := (drew_cell (W.alloc (.cells #[.bool false, .int .i64 0, .int .i64 0] 31)) _).trans z3x1
      have z3x2 := (drew_cell (W.alloc (.cells #[.bool false, .int .i64 0, .int .i64 0] 31)) _).trans z3x2
      have z3F := fun o => (drew_frozen (W.alloc (.cells #[.bool false, .int .i64 0, .int .i64 0] 31)) _).trans (z3F o)
      have z3L := drew_size_lt z3L
      have z3M := z3B.drew
      generalize (W.alloc (.cells #[.bool false, .int .i64 0, .int .i64 0] 31)).drew = w3 at *
      refine hK.out _ _ ?_ (fun hHeld => ?_)
      · try dsimp only
        exact HSx.out _ z3M
      clear hK K
      have bl3 : W.heap.size ≤ W.heap.size := Nat.le_refl _
      refine wpAnyH_ready (rs := [8]) (by kernel_rfl) (by simp) ?_
      refine AllReadyH.cons rfl (fun K hK => ?_) AllReadyH.nil
      go_simp
      go_wp2_with (first | (go_at_call 52; refine (HN.out _ (HM.out.trans ((hHeld.2.2).mono HM.out.size))).mono ?_; rintro e w4 ⟨rfl, hb4⟩; have b4 := (hHeld.2.2).trans (hb4.mono (hHeld.2.2).size)))
      refine hK.out _ _ ?_ (fun hHeld => ?_)
      · try dsimp only
        exact HSx.out _ b4
      clear hK K
      have z4x0 := (hb4.cell z3L).trans z3x0
      have z4x1 := (hb4.cell z3L).trans z3x1
      have z4x2 := (hb4.cell z3L).trans z3x2
      have z4F : ∀ o, w4.frozen? ⟨W.heap.size, o, none⟩ = false := fun o => (hb4.frozen z3L).trans (z3F o)
      have z4L : W.heap.size < w4.heap.size := Nat.lt_of_lt_of_le z3L hb4.size
      clear z3x0 z3x1 z3x2 z3F
      refine tkA 9 6 (v := ?_) rfl (by kernel_rfl) (fun _ _ _ h => h) (by rfl) ?_ (by assumption) ?_; rotate_left; · (intro w hSw; (try dsimp only at hSw); go_simp; try with_reducible rfl)
      simp only [pa]
      refine tkA 10 16 (v := ?_) rfl (by kernel_rfl) (fun _ _ _ h => h) (by rfl) ?_ (by assumption) ?_; rotate_left; · (intro w hSw; (try dsimp only at hSw); go_simp; try with_reducible rfl)
      simp only [pa]
      refine tkA 11 17 (v := ?_) rfl (by kernel_rfl) (fun _ _ _ h => h) (by rfl) ?_ (by assumption) ?_; rotate_left; · (intro w hSw; (try dsimp only at hSw); go_simp; try with_reducible rfl)
      simp only [pa]
      refine tkA 12 18 (v := ?_) rfl (by kernel_rfl) (fun _ _ _ h => h) (by rfl) ?_ (by assumption) ?_; rotate_left; · (intro w hSw; (try dsimp only at hSw); go_simp; try with_reducible rfl)
      simp only [pa]
      refine wpAnyH_ready (rs := [14]) (by kernel_rfl) (by simp) ?_
      refine AllReadyH.cons rfl (fun K hK => ?_) AllReadyH.nil
      go_simp
      refine hK.out _ _ ?_ (fun hHeld => ?_)
      · try dsimp only
        refine HSx.out _ ?_
        repeat (with_reducible refine Below.setCell ?_ ?_ _; rotate_left; (focus (exact (bl3))))
        exact (hHeld.2.2)
      clear hK K
      refine tkA 15 4 (v := ?_) rfl (by kernel_rfl) (fun _ _ _ h => h) (by rfl) ?_ (by assumption) ?_; rotate_left; · (intro w hSw; (try dsimp only at hSw); go_simp; try with_reducible rfl)
      simp only [pa]
      refine tkA 16 5 (v := ?_) rfl (by kernel_rfl) (fun _ _ _ h => h) (by rfl) ?_ (by assumption) ?_; rotate_left; · (intro w hSw; (try dsimp only at hSw); go_simp; try with_reducible rfl)
      simp only [pa]
      have HE := hidP (hHeld.2.2)
      refine wpAnyH_done (by kernel_rfl) ?_ _
      clear hHeld
      go_wp2_with fail
      go_meet
      refine ⟨_, rfl, rfl, rfl, bl3, ?_, ?_, ?_, ?_, HE.out⟩
      · simp; exact z4L
      all_goals (simp [go_sem, z4x0, z4x1, z4x2])
  case rest =>
    obtain ⟨b, rfl, rfl, rfl, hb1, qL, q0, q1, q2, hY⟩ := hcut
    have HX2 := hidP (HX.out.later hY)
    have d1 := HX2.out.cel 1 _ rfl
    have d2 := HX2.out.cel 2 _ rfl
    have e1 := HX2.out.frz 1
    have e2 := HX2.out.frz 2
    have s0 := (hY.cell rL).trans r0
    have s1 := (hY.cell rL).trans r1
    have s2 := (hY.cell rL).trans r2
    have sF : ∀ o, wc.frozen? ⟨w.heap.size, o, none⟩ = false := fun o => (hY.frozen rL).trans (rF o)
    have G := hidP (gr_below (gr_below (gr_refl w R) HM.out) hY)
    have n1 : b ≠ R := by omega
    have n2 : R ≠ w.heap.size := by omega
    have n3 : b ≠ w.heap.size := by omega
    clear hY r0 r1 r2 rF c0 c1 HX
    cases bad
    · cases ok
      · go_wp2_with fail
        refine bodyPost_ret (v := .agg #[.bool false, .int .i64 0, .int .i64 0]) (by simp [results, Tryz.results31, go_sem, s0, s1, s2]) rfl ⟨Or.inr ⟨Or.inr rfl, rfl, ?_⟩, ?_⟩
        · exact (((HX2.out.set 2 _ (.bool true) rfl).far (b := w.heap.size) (i := 0) (by omega) (.bool false)).far (b := w.heap.size) (i := 1) (by omega) (.int .i64 0)).far (b := w.heap.size) (i := 2) (by omega) (.int .i64 0)
        · exact gr_new (gr_new (gr_new (gr_set' G.out 2 _) (Nat.le_refl _) 0 _) (Nat.le_refl _) 1 _) (Nat.le_refl _) 2 _
      · go_wp2_with fail
        refine bodyPost_ret (v := .agg #[.bool s, .int .i64 h, .int .i64 l]) (by simp [results, Tryz.results31, go_sem, s0, s1, s2]) rfl ⟨Or.inl ⟨rfl, rfl, rfl, ?_⟩, ?_⟩
        · exact (((HX2.out.set 1 _ (.int .i64 j) rfl).far (b := w.heap.size) (i := 0) (by omega) (.bool s)).far (b := w.heap.size) (i := 1) (by omega) (.int .i64 h)).far (b := w.heap.size) (i := 2) (by omega) (.int .i64 l)
        · exact gr_new (gr_new (gr_new (gr_set' G.out 1 _) (Nat.le_refl _) 0 _) (Nat.le_refl _) 1 _) (Nat.le_refl _) 2 _
    · go_wp2_with fail
      refine bodyPost_ret (v := .agg #[.bool false, .int .i64 0, .int .i64 0]) (by simp [results, Tryz.results31, go_sem, s0, s1, s2]) rfl ⟨Or.inr ⟨Or.inl rfl, rfl, ?_⟩, ?_⟩
      · exact (((HX2.out.set 2 _ (.bool true) rfl).far (b := w.heap.size) (i := 0) (by omega) (.bool false)).far (b := w.heap.size) (i := 1) (by omega) (.int .i64 0)).far (b := w.heap.size) (i := 2) (by omega) (.int .i64 0)
      · exact gr_new (gr_new (gr_new (gr_set' G.out 2 _) (Nat.le_refl _) 0 _) (Nat.le_refl _) 1 _) (Nat.le_refl _) 2 _

/-- What a reader remembers behind a reading of r: the place behind it, or that something was bad. -/
def RdE {α : Type} (r : Option (α × Nat)) (bad : Bool) (x : α) (p' : Nat) (bad' : Bool) : Prop := (bad' = false → bad = false ∧ r = some (x, p')) ∧ (bad' = true → bad = true ∨ r = none)
theorem rNum_le {zs : List Int} {p : Nat} {x : Int} {j : Nat} (h : rNum zs p = some (x, j)) : j ≤ zs.length := by
  unfold rNum at h
  cases hr : rdN zs p with
  | good y k => rw [hr] at h; simp at h; have := rdN_le hr; omega
  | torn => rw [hr] at h; cases h
  | bad => rw [hr] at h; cases h
theorem rTxt_le {zs : List Int} {p : Nat} {x : ByteArray} {j : Nat} (h : rTxt zs p = some (x, j)) : j ≤ zs.length := by
  unfold rTxt at h
  cases hr : rdN zs p with
  | good y k =>
    rw [hr] at h
    simp only at h
    split at h
    · rename_i hc
      simp at h
      have := rdN_le hr
      omega
    · cases h
  | torn => rw [hr] at h; cases h
  | bad => rw [hr] at h; cases h
theorem rAdr_le {zs : List Int} {p : Nat} {x : Bool × Int × Int} {j : Nat} (h : rAdr zs p = some (x, j)) : j ≤ zs.length := by
  unfold rAdr at h
  split at h
  · rename_i hc; simp at h; omega
  · split at h
    · rename_i hc; simp at h; omega
    · cases h
theorem l8Get_any (R : Nat) (a : Option Addr) (cap : Nat) (zs : List Int) (p : Nat) (bad : Bool) (w : World) (hX : Bx w R [.slice a zs.length cap, .int .i64 (p : Nat), .bool bad]) (hB : Byt w a zs) (ho : Oct zs) (hl : zs.length ≤ 2000000) (hp : p ≤ zs.length) (hnc : zs.length ≤ cap) (hcap : cap ≤ 1000000000) :
    Calls Tryz.prog 29 #[.pointer (some ⟨R, 0, none⟩)] w fun e w' => ∃ (x : Int) (p' : Nat) (bad' : Bool), e = .returned (.int .i64 x) ∧ Bx w' R [.slice a zs.length cap, .int .i64 (p' : Nat), .bool bad'] ∧ p' ≤ zs.length ∧ RdE (rNum zs p) bad x p' bad' ∧ w.grownBy w' (some R) := by
  have hbadc : (bad = true ∨ rNum zs p = none) → Calls Tryz.prog 29 #[.pointer (some ⟨R, 0, none⟩)] w fun e w' => ∃ (x : Int) (p' : Nat) (bad' : Bool), e = .returned (.int .i64 x) ∧ Bx w' R [.slice a zs.length cap, .int .i64 (p' : Nat), .bool bad'] ∧ p' ≤ zs.length ∧ RdE (rNum zs p) bad x p' bad' ∧ w.grownBy w' (some R) := fun h =>
    (l8Get_bad R a cap zs p bad w hX hB ho hl hp hnc hcap h).mono fun e w' ⟨h1, h2, h3⟩ => ⟨0, p, true, h1, h2, hp, ⟨fun e => (by cases e), fun _ => h⟩, h3⟩
  cases bad
  · cases hr : rNum zs p with
    | none => rw [hr] at hbadc; exact hbadc (Or.inr rfl)
    | some u =>
      obtain ⟨x, j⟩ := u
      exact (l8Get_good R a cap zs p x j w hX hB ho hl hp hnc hcap hr).mono fun e w' ⟨h1, h2, h3⟩ => ⟨x, j, false, h1, h2, rNum_le hr, ⟨fun _ => ⟨rfl, rfl⟩, fun e => (by cases e)⟩, h3⟩
  · exact hbadc (Or.inl rfl)
theorem l8Text_any (R : Nat) (a : Option Addr) (cap : Nat) (zs : List Int) (p : Nat) (bad : Bool) (w : World) (hX : Bx w R [.slice a zs.length cap, .int .i64 (p : Nat), .bool bad]) (hB : Byt w a zs) (ho : Oct zs) (hp : p ≤ zs.length) (hnc : zs.length ≤ cap) (hcap : cap ≤ 1000000000) :
    Calls Tryz.prog 32 #[.pointer (some ⟨R, 0, none⟩)] w fun e w' => ∃ (x : ByteArray) (p' : Nat) (bad' : Bool), e = .returned (.string x) ∧ Bx w' R [.slice a zs.length cap, .int .i64 (p' : Nat), .bool bad'] ∧ p' ≤ zs.length ∧ RdE (rTxt zs p) bad x p' bad' ∧ w.grownBy w' (some R) := by
  have hbadc : (bad = true ∨ rTxt zs p = none) → Calls Tryz.prog 32 #[.pointer (some ⟨R, 0, none⟩)] w fun e w' => ∃ (x : ByteArray) (p' : Nat) (bad' : Bool), e = .returned (.string x) ∧ Bx w' R [.slice a zs.length cap, .int .i64 (p' : Nat), .bool bad'] ∧ p' ≤ zs.length ∧ RdE (rTxt zs p) bad x p' bad' ∧ w.grownBy w' (some R) := fun h =>
    (l8Text_bad R a cap zs p bad w hX hB ho hp hnc hcap h).mono fun e w' ⟨h1, h2, h3⟩ => ⟨⟨#[]⟩, p, true, h1, h2, hp, ⟨fun e => (by cases e), fun _ => h⟩, h3⟩
  cases bad
  · cases hr : rTxt zs p with
    | none => rw [hr] at hbadc; exact hbadc (Or.inr rfl)
    | some u =>
      obtain ⟨x, j⟩ := u
      exact (l8Text_good R a cap zs p x j w hX hB ho hp hnc hcap hr).mono fun e w' ⟨h1, h2, h3⟩ => ⟨x, j, false, h1, h2, rTxt_le hr, ⟨fun _ => ⟨rfl, rfl⟩, fun e => (by cases e)⟩, h3⟩
  · exact hbadc (Or.inl rfl)
theorem l8Addr_any (R : Nat) (a : Option Addr) (cap : Nat) (zs : List Int) (p : Nat) (bad : Bool) (w : World) (hX : Bx w R [.slice a zs.length cap, .int .i64 (p : Nat), .bool bad]) (hB : Byt w a zs) (ho : Oct zs) (hl : zs.length ≤ 2000000) (hp : p ≤ zs.length) :
    Calls Tryz.prog 31 #[.pointer (some ⟨R, 0, none⟩)] w fun e w' => ∃ (s : Bool) (h l : Int) (p' : Nat) (bad' : Bool), e = .returned (.agg #[.bool s, .int .i64 h, .int .i64 l]) ∧ Bx w' R [.slice a zs.length cap, .int .i64 (p' : Nat), .bool bad'] ∧ p' ≤ zs.length ∧ RdE (rAdr zs p) bad (s, h, l) p' bad' ∧ w.grownBy w' (some R) := by
  cases hr : rAdr zs p with
  | none =>
    have hV : gaV zs (p : Int) = .tuple #[.agg #[.bool false, .int .i64 0, .int .i64 0], .int .i64 0, .bool false] := by rw [ga_r, hr]; rfl
    refine (l8Addr_of R a cap zs p bad false 0 0 0 false w hX hB ho hl hV).mono ?_
    rintro e w' ⟨⟨_, h2, _⟩ | ⟨_, h2, h3⟩, h4⟩
    · cases h2
    · exact ⟨_, _, _, p, true, h2, h3, hp, ⟨fun e => (by cases e), fun _ => Or.inr rfl⟩, h4⟩
  | some u =>
    obtain ⟨⟨s, h, l⟩, j⟩ := u
    have hV : gaV zs (p : Int) = .tuple #[.agg #[.bool s, .int .i64 h, .int .i64 l], .int .i64 ((j : Nat) : Int), .bool true] := by rw [ga_r, hr]
    refine (l8Addr_of R a cap zs p bad s h l j true w hX hB ho hl hV).mono ?_
    rintro e w' ⟨⟨h1, _, h2, h3⟩ | ⟨h1, h2, h3⟩, h4⟩
    · exact ⟨_, _, _, j, false, h2, h3, rAdr_le hr, ⟨fun _ => ⟨h1, rfl⟩, fun e => (by cases e)⟩, h4⟩
    · refine ⟨_, _, _, p, true, h2, h3, hp, ⟨fun e => (by cases e), fun _ => Or.inl ?_⟩, h4⟩
      rcases h1 with h1 | h1
      · exact h1
      · cases h1

set_option maxRecDepth 10000 in
set_option maxHeartbeats 8000000 in
theorem l8GetPrefix_any (R : Nat) (a : Option Addr) (cap : Nat) (zs : List Int) (p : Nat) (bad : Bool) (w : World) (hX : Bx w R [.slice a zs.length cap, .int .i64 (p : Nat), .bool bad]) (hB : ∀ y, w.grownBy y (some R) → Byt y a zs) (ho : Oct zs) (hl : zs.length ≤ 2000000) (hp : p ≤ zs.length) (hnc : zs.length ≤ cap) (hcap : cap ≤ 1000000000) :
    Calls Tryz.prog 30 #[.pointer (some ⟨R, 0, none⟩)] w fun e w' => ∃ (s : Bool) (h l : Int) (x : Int) (p1 p2 : Nat) (bad1 bad2 : Bool), e = .returned (.agg #[.bool s, .int .i64 h, .int .i64 l, .int .i64 x]) ∧ Bx w' R [.slice a zs.length cap, .int .i64 (p2 : Nat), .bool bad2] ∧ p2 ≤ zs.length ∧ RdE (rAdr zs p) bad (s, h, l) p1 bad1 ∧ RdE (rNum zs p1) bad1 x p2 bad2 ∧ w.grownBy w' (some R) := by
  have hR := hX.lt
  have HBy := hidP hB
  have HX := hidP (hX.alloc (.cells #[.bool false, .int .i64 0, .int .i64 0, .int .i64 0] 33))
  have HZ := hidP (Bx.new w [.bool false, .int .i64 0, .int .i64 0, .int .i64 0] 33)
  have HM := hidP (gr_below (gr_refl w R) (alloc_belowR w (.cells #[.bool false, .int .i64 0, .int .i64 0, .int .i64 0] 33)))
  clear hX hB
  go_enter Tryz.func30, Tryz.ntmps30
  go_wp2_with fail
  generalize w.alloc (.cells #[.bool false, .int .i64 0, .int .i64 0, .int .i64 0] 33) = W at *
  refine (l8Addr_any R a cap zs p bad W HX.out (HBy.out _ HM.out) ho hl hp).mono ?_
  rintro e W1 ⟨s, h, l, p1, bad1, rfl, hX1, hp1, hr1, hg1⟩
  have HX1 := hidP (hX1.alloc (.cells #[.bool s, .int .i64 h, .int .i64 l] 31))
  have HZ1 := hidP ((HZ.out.grownR hg1 (by omega)).alloc (.cells #[.bool s, .int .i64 h, .int .i64 l] 31))
  have hlt1 : w.heap.size < W1.heap.size := (HZ.out.grownR hg1 (by omega)).lt
  have hRlt : R < W1.heap.size := hX1.lt
  have HA := hidP (Bx.new W1 [.bool s, .int .i64 h, .int .i64 l] 31)
  have HM1 := hidP (gr_below (HM.out.trans hg1) (alloc_belowR W1 (.cells #[.bool s, .int .i64 h, .int .i64 l] 31)))
  have HR1 := hidP hr1
  clear hX1 hg1 hr1 HX HZ HM
  go_wp2_with fail
  generalize W1.alloc (.cells #[.bool s, .int .i64 h, .int .i64 l] 31) = V at *
  refine wp_region_held_drew (S := (fun x => x.cell? ⟨W1.heap.size, 0, none⟩ = some (.bool s) ∧ x.cell? ⟨W1.heap.size, 1, none⟩ = some (.int .i64 h) ∧ x.cell? ⟨W1.heap.size, 2, none⟩ = some (.int .i64 l))) (by kernel_rfl) ?_ (fun hHeld => ?_)
  · try dsimp only
    exact ⟨HA.out.drew.cel 0 _ rfl, HA.out.drew.cel 1 _ rfl, HA.out.drew.cel 2 _ rfl⟩
  refine tkA 0 6 (v := ?_) rfl (by kernel_rfl) (fun _ _ _ h => h) (by rfl) ?_ (by assumption) ?_; rotate_left; · (intro w hSw; (try dsimp only at hSw); go_simp; try with_reducible rfl)
  simp only [pa]
  refine tkA 1 7 (v := ?_) rfl (by kernel_rfl) (fun _ _ _ h => h) (by rfl) ?_ (by assumption) ?_; rotate_left; · (intro w hSw; (try dsimp only at hSw); go_simp; try with_reducible rfl)
  simp only [pa]
  refine wpAnyH_ready (rs := [2]) (by kernel_rfl) (by simp) ?_
  refine AllReadyH.cons rfl (fun K hK => ?_) AllReadyH.nil
  go_simp
  go_wp2_with (first | (go_at_call 29; refine (l8Get_any R a cap zs p1 bad1 _ HX1.out.drew (HBy.out _ (gr_drew' HM1.out)) ho hl hp1 hnc hcap).mono ?_; rintro e V2 ⟨x, p2, bad2, rfl, hX2, hp2, hr2, hg2⟩))
  have HA2 := hidP (HA.out.drew.grownR hg2 (by omega))
  have HZ2 := hidP (HZ1.out.drew.grownR hg2 (by omega))
  have HX2 := hidP hX2
  have HM2 := hidP ((gr_drew' HM1.out).trans hg2)
  have HR2 := hidP hr2
  clear hX2 hg2 hr2 HA HZ1 HX1 HM1
  refine hK.out _ _ ?_ (fun hHeld => ?_)
  · try dsimp only
    exact ⟨HA2.out.cel 0 _ rfl, HA2.out.cel 1 _ rfl, HA2.out.cel 2 _ rfl⟩
  clear hK K
  try simp only [pa]
  refine tkA 3 9 (v := ?_) rfl (by kernel_rfl) (fun _ _ _ h => h) (by rfl) ?_ (by assumption) ?_; rotate_left; · (intro w hSw; (try dsimp only at hSw); go_simp; try with_reducible rfl)
  simp only [pa]
  have z0 := HZ2.out.cel 0 _ rfl
  have z1 := HZ2.out.cel 1 _ rfl
  have z2 := HZ2.out.cel 2 _ rfl
  have z3 := HZ2.out.cel 3 _ rfl
  have y0 := HZ2.out.frz 0
  have y1 := HZ2.out.frz 1
  have y2 := HZ2.out.frz 2
  have y3 := HZ2.out.frz 3
  refine wpAnyH_ready (rs := [4]) (by kernel_rfl) (by simp) ?_
  refine AllReadyH.cons rfl (fun K hK => ?_) AllReadyH.nil
  go_simp
  refine hK.out _ _ ?_ (fun hHeld => ?_)
  · try dsimp only
    have q := (((HA2.out.far (b := w.heap.size) (i := 0) (by omega) (.bool s)).far (b := w.heap.size) (i := 1) (by omega) (.int .i64 h)).far (b := w.heap.size) (i := 2) (by omega) (.int .i64 l)).far (b := w.heap.size) (i := 3) (by omega) (.int .i64 x)
    exact ⟨q.cel 0 _ rfl, q.cel 1 _ rfl, q.cel 2 _ rfl⟩
  clear hK K
  refine wpAnyH_done (by kernel_rfl) ?_ _
  clear hHeld
  go_wp2_with fail
  refine bodyPost_ret (v := .agg #[.bool s, .int .i64 h, .int .i64 l, .int .i64 x]) (by simp [results, Tryz.results30, go_sem, z0, z1, z2, z3]) rfl ⟨s, h, l, x, p1, p2, bad1, bad2, rfl, ?_, hp2, HR1.out, HR2.out, ?_⟩
  · exact (((HX2.out.far (b := w.heap.size) (i := 0) (by omega) (.bool s)).far (b := w.heap.size) (i := 1) (by omega) (.int .i64 h)).far (b := w.heap.size) (i := 2) (by omega) (.int .i64 l)).far (b := w.heap.size) (i := 3) (by omega) (.int .i64 x)
  · exact gr_new (gr_new (gr_new (gr_new HM2.out (Nat.le_refl _) 0 _) (Nat.le_refl _) 1 _) (Nat.le_refl _) 2 _) (Nat.le_refl _) 3 _

end Go.Proofs.YtnchndcanhmbeaaGreatDoor
namespace Go.Proofs.YtnchndcanhmbeaaGreatDoor
open Go.RowKit

set_option maxHeartbeats 1000000 in
theorem catchC_p (p : Addr) (x f : Int) (older : List PanicEntry) (w : World) (hc : w.cell? p = some (.int .i64 x)) (hz : w.frozen? p = false) :
    CallsD Tryz.prog 54 #[.pointer (some p)] (.panicking ({ v := .iface 92 (.int .i64 f), recovered := false } :: older)) w fun e u' w' =>
      e = .returned (.tuple #[]) ∧ u' = .panicking ({ v := .iface 92 (.int .i64 f), recovered := true } :: older) ∧ w' = w.setCell p (.int .i64 f) := by
  have hta : ∀ w : World, (Instr.typeAssert (.iface 92 (.int .i64 f)) 20 92 true).run Tryz.prog w = .ok (.tuple #[.int .i64 f, .bool true]) w := fun _ => by kernel_rfl
  refine callsD_of_wpS Tryz.func54 rfl fun c₀ cs hu => ?_
  apply wpS_seq
  apply wpS_region
  simp [wpOpsS, go_sem, recoverD, hu, Tryz.ntmps54, Exit.thenS, hta]
  apply wpS_seq
  apply wpS_region
  simp [wpOpsS, go_sem, Exit.thenS]
  refine wpS_cond (t := true) (by simp [Act.eval, Array.replicate]) ?_
  simp only [if_true]
  apply wpS_region
  simp [wpOpsS, go_sem, hc, hz, bodyPostS, results, Tryz.results54]

set_option maxHeartbeats 1000000 in
theorem catchC_n (p : Addr) (w : World) :
    CallsD Tryz.prog 54 #[.pointer (some p)] .returning w fun e u' w' => e = .returned (.tuple #[]) ∧ u' = .returning ∧ w' = w := by
  have hta : ∀ w : World, (Instr.typeAssert Value.nilIface 20 92 true).run Tryz.prog w = .ok (.tuple #[.int .i64 0, .bool false]) w := fun _ => by kernel_rfl
  refine callsD_of_wpS Tryz.func54 rfl fun c₀ cs hu => ?_
  apply wpS_seq
  apply wpS_region
  simp [wpOpsS, go_sem, recoverD, hu, Tryz.ntmps54, Exit.thenS, hta]
  apply wpS_seq
  apply wpS_region
  simp [wpOpsS, go_sem, Exit.thenS]
  refine wpS_cond (t := false) (by simp [Act.eval, Array.replicate]) ?_
  simp only [Bool.false_eq_true, if_false]
  refine wpS_of_wp (wp_skip ?_)
  cases c₀
  simp_all [bodyPostS, results, Tryz.results54]

theorem cell_setF {w : World} {b o x o' : Nat} {u v : Value} (h : w.cell? ⟨b, o, none⟩ = some u) (hne : b ≠ x) : (w.setCell ⟨x, o', none⟩ v).cell? ⟨b, o, none⟩ = some u := by
  rw [World.cell?_setCell_far _ _ _ _ (fun e => hne e.symm)]; exact h
theorem frz_setF {w : World} {b o x o' : Nat} {v : Value} (h : w.frozen? ⟨b, o, none⟩ = false) : (w.setCell ⟨x, o', none⟩ v).frozen? ⟨b, o, none⟩ = false := by
  simpa [go_sem] using h
theorem rdr_newC (w : World) (a : Option Addr) (m cap : Nat) (zs : List Int) (hB : Byt w a zs) (hlen : zs.length = m) (hnc : m ≤ cap) (hcap : m ≤ 1000000000000 ∧ cap ≤ 9223372036854775807) :
    Rdr (((w.alloc (.cells #[.int .i64 0, .int .i64 0, .int .i64 0, .int .i64 0, .bool false, .int .i64 0, .int .i64 0, .int .i64 0, .int .i64 0, .bool false, .int .i64 0, .int .i64 0, .string ⟨#[]⟩, .int .i64 0, .int .i64 0] 35)).alloc (.cells #[.int .i64 3] 3)).alloc (.cells #[.slice a m cap, .int .i64 0] 95)) (w.heap.size + 1 + 1) a m cap zs 0 := by
  have h := rdr_new (w.alloc (.cells #[.int .i64 0, .int .i64 0, .int .i64 0, .int .i64 0, .bool false, .int .i64 0, .int .i64 0, .int .i64 0, .int .i64 0, .bool false, .int .i64 0, .int .i64 0, .string ⟨#[]⟩, .int .i64 0, .int .i64 0] 35)) a m cap zs 0 (hB.later ((Below.refl _ w).alloc (Nat.le_refl _) _)) hlen hnc hcap (Nat.zero_le _)
  simpa using h
theorem box_cells {w w1 : World} {ob : Obj} (h : (((w.alloc (.cells #[.int .i64 0, .int .i64 0, .int .i64 0, .int .i64 0, .bool false, .int .i64 0, .int .i64 0, .int .i64 0, .int .i64 0, .bool false, .int .i64 0, .int .i64 0, .string ⟨#[]⟩, .int .i64 0, .int .i64 0] 35)).alloc (.cells #[.int .i64 3] 3)).alloc ob).grownBy w1 (some (w.heap.size + 1 + 1))) :
    Bx w1 w.heap.size [.int .i64 0, .int .i64 0, .int .i64 0, .int .i64 0, .bool false, .int .i64 0, .int .i64 0, .int .i64 0, .int .i64 0, .bool false, .int .i64 0, .int .i64 0, .string ⟨#[]⟩, .int .i64 0, .int .i64 0] ∧ w1.cell? ⟨w.heap.size + 1, 0, none⟩ = some (.int .i64 3) ∧ w1.frozen? ⟨w.heap.size + 1, 0, none⟩ = false ∧ Below w.heap.size w w1 := by
  have hc := code_cell (w := (w.alloc (.cells #[.int .i64 0, .int .i64 0, .int .i64 0, .int .i64 0, .bool false, .int .i64 0, .int .i64 0, .int .i64 0, .int .i64 0, .bool false, .int .i64 0, .int .i64 0, .string ⟨#[]⟩, .int .i64 0, .int .i64 0] 35))) (by simpa using h)
  simp at hc
  have hb : Bx (((w.alloc (.cells #[.int .i64 0, .int .i64 0, .int .i64 0, .int .i64 0, .bool false, .int .i64 0, .int .i64 0, .int .i64 0, .int .i64 0, .bool false, .int .i64 0, .int .i64 0, .string ⟨#[]⟩, .int .i64 0, .int .i64 0] 35)).alloc (.cells #[.int .i64 3] 3)).alloc ob) w.heap.size [.int .i64 0, .int .i64 0, .int .i64 0, .int .i64 0, .bool false, .int .i64 0, .int .i64 0, .int .i64 0, .int .i64 0, .bool false, .int .i64 0, .int .i64 0, .string ⟨#[]⟩, .int .i64 0, .int .i64 0] := ((Bx.new w [.int .i64 0, .int .i64 0, .int .i64 0, .int .i64 0, .bool false, .int .i64 0, .int .i64 0, .int .i64 0, .int .i64 0, .bool false, .int .i64 0, .int .i64 0, .string ⟨#[]⟩, .int .i64 0, .int .i64 0] 35).alloc _).alloc _
  exact ⟨hb.grownR h (by omega), hc.1, hc.2.1, ((Below.refl _ w).alloc (Nat.le_refl _) _).trans (hc.2.2.mono (by omega))⟩

set_option maxRecDepth 20000 in
set_option maxHeartbeats 16000000 in
theorem readAtC_of (Q : Ending → World → Prop) (a : Option Addr) (m cap : Nat) (zs : List Int) (w : World) (hB : Byt w a zs) (ho : Oct zs) (hlen : zs.length = m) (hnc : m ≤ cap) (hcap : m ≤ 1000000000000 ∧ cap ≤ 9223372036854775807)
    (hgood : ∀ (c : Cmd) (j : Nat) w', rdC zs = some (c, j) → Below w.heap.size w w' → Q (.returned (.tuple #[.agg #[.int .i64 c.k, .int .i64 c.s, .int .i64 c.q, .int .i64 c.n, .bool c.aS, .int .i64 c.aH, .int .i64 c.aL, .int .i64 c.ab, .int .i64 c.b, .bool c.hS, .int .i64 c.hH, .int .i64 c.hL, .string c.o, .int .i64 c.t, .int .i64 c.sp], .int .i64 j, .int .i64 0])) w')
    (hbad : ∀ (f : Int) w', rdC zs = none → f ≠ 0 → Below w.heap.size w w' → Q (.returned (.tuple #[.agg #[.int .i64 0, .int .i64 0, .int .i64 0, .int .i64 0, .bool false, .int .i64 0, .int .i64 0, .int .i64 0, .int .i64 0, .bool false, .int .i64 0, .int .i64 0, .string ⟨#[]⟩, .int .i64 0, .int .i64 0], .int .i64 0, .int .i64 f])) w') :
    Calls Tryz.prog 34 #[.slice a m cap, .int .i64 0, .func (.func 35) #[] #[]] w Q := by
  have hmf : ∀ (fn : Fn) (first cap : Array Value) (w : World), (Instr.makeFunc fn first cap).run Tryz.prog w = .ok (.func fn first cap) w := fun _ _ _ _ => rfl
  have HC := hid' (command_any (w.heap.size + 1 + 1) a m cap zs _ (rdr_newC w a m cap zs hB hlen hnc hcap) ho)
  have hm0 : ¬ ((m : Int) < 0) := by omega
  have HGd := hid' hgood
  have HBd := hid' hbad
  clear hB hlen hgood hbad ho
  go_enter_defers Tryz.func34, Tryz.ntmps34
  go_wp2_with fail
  refine HC.out.mono ?_
  rintro e w1 ⟨⟨c, j, hE, rfl, hr1⟩ | ⟨f, hE, hf, rfl⟩, hgr⟩
  · obtain ⟨bX, cC, fC, hB1⟩ := box_cells hgr
    obtain ⟨k, s, q, n, aS, aH, aL, ab, b, hS, hH, hL, o, t, sp⟩ := c
    have cI := hr1.idx
    have hne : w.heap.size ≠ w.heap.size + 1 + 1 := by omega
    have HX := hid' bX
    have HGe := hid' (fun w' hb => HGd.out ⟨k, s, q, n, aS, aH, aL, ab, b, hS, hH, hL, o, t, sp⟩ j w' hE hb)
    have HB1 := hid' hB1
    try dsimp only at HGe
    have b0 := bX.cel 0 _ rfl
    have f0 := bX.frz 0
    have b1 := bX.cel 1 _ rfl
    have f1 := bX.frz 1
    have b2 := bX.cel 2 _ rfl
    have f2 := bX.frz 2
    have b3 := bX.cel 3 _ rfl
    have f3 := bX.frz 3
    have b4 := bX.cel 4 _ rfl
    have f4 := bX.frz 4
    have b5 := bX.cel 5 _ rfl
    have f5 := bX.frz 5
    have b6 := bX.cel 6 _ rfl
    have f6 := bX.frz 6
    have b7 := bX.cel 7 _ rfl
    have f7 := bX.frz 7
    have b8 := bX.cel 8 _ rfl
    have f8 := bX.frz 8
    have b9 := bX.cel 9 _ rfl
    have f9 := bX.frz 9
    have b10 := bX.cel 10 _ rfl
    have f10 := bX.frz 10
    have b11 := bX.cel 11 _ rfl
    have f11 := bX.frz 11
    have b12 := bX.cel 12 _ rfl
    have f12 := bX.frz 12
    have b13 := bX.cel 13 _ rfl
    have f13 := bX.frz 13
    have b14 := bX.cel 14 _ rfl
    have f14 := bX.frz 14
    clear hr1 hE hgr hB1 bX HGd HBd
    try dsimp only
    go_wp2_with fail
    have HX2 : Hid (Bx (((((((((((((((w1.setCell ⟨w.heap.size, 0, none⟩ (.int .i64 k)).setCell ⟨w.heap.size, 1, none⟩ (.int .i64 s)).setCell ⟨w.heap.size, 2, none⟩ (.int .i64 q)).setCell ⟨w.heap.size, 3, none⟩ (.int .i64 n)).setCell ⟨w.heap.size, 4, none⟩ (.bool aS)).setCell ⟨w.heap.size, 5, none⟩ (.int .i64 aH)).setCell ⟨w.heap.size, 6, none⟩ (.int .i64 aL)).setCell ⟨w.heap.size, 7, none⟩ (.int .i64 ab)).setCell ⟨w.heap.size, 8, none⟩ (.int .i64 b)).setCell ⟨w.heap.size, 9, none⟩ (.bool hS)).setCell ⟨w.heap.size, 10, none⟩ (.int .i64 hH)).setCell ⟨w.heap.size, 11, none⟩ (.int .i64 hL)).setCell ⟨w.heap.size, 12, none⟩ (.string o)).setCell ⟨w.heap.size, 13, none⟩ (.int .i64 t)).setCell ⟨w.heap.size, 14, none⟩ (.int .i64 sp)) w.heap.size [.int .i64 k, .int .i64 s, .int .i64 q, .int .i64 n, .bool aS, .int .i64 aH, .int .i64 aL, .int .i64 ab, .int .i64 b, .bool hS, .int .i64 hH, .int .i64 hL, .string o, .int .i64 t, .int .i64 sp]) := hid' (((((((((((((((HX.out.set 0 _ (.int .i64 k) rfl).set 1 _ (.int .i64 s) rfl).set 2 _ (.int .i64 q) rfl).set 3 _ (.int .i64 n) rfl).set 4 _ (.bool aS) rfl).set 5 _ (.int .i64 aH) rfl).set 6 _ (.int .i64 aL) rfl).set 7 _ (.int .i64 ab) rfl).set 8 _ (.int .i64 b) rfl).set 9 _ (.bool hS) rfl).set 10 _ (.int .i64 hH) rfl).set 11 _ (.int .i64 hL) rfl).set 12 _ (.string o) rfl).set 13 _ (.int .i64 t) rfl).set 14 _ (.int .i64 sp) rfl)
    have HB2 := hid' (((((((((((((((HB1.out.setCell (p := ⟨w.heap.size, 0, none⟩) (Nat.le_refl _) (.int .i64 k)).setCell (p := ⟨w.heap.size, 1, none⟩) (Nat.le_refl _) (.int .i64 s)).setCell (p := ⟨w.heap.size, 2, none⟩) (Nat.le_refl _) (.int .i64 q)).setCell (p := ⟨w.heap.size, 3, none⟩) (Nat.le_refl _) (.int .i64 n)).setCell (p := ⟨w.heap.size, 4, none⟩) (Nat.le_refl _) (.bool aS)).setCell (p := ⟨w.heap.size, 5, none⟩) (Nat.le_refl _) (.int .i64 aH)).setCell (p := ⟨w.heap.size, 6, none⟩) (Nat.le_refl _) (.int .i64 aL)).setCell (p := ⟨w.heap.size, 7, none⟩) (Nat.le_refl _) (.int .i64 ab)).setCell (p := ⟨w.heap.size, 8, none⟩) (Nat.le_refl _) (.int .i64 b)).setCell (p := ⟨w.heap.size, 9, none⟩) (Nat.le_refl _) (.bool hS)).setCell (p := ⟨w.heap.size, 10, none⟩) (Nat.le_refl _) (.int .i64 hH)).setCell (p := ⟨w.heap.size, 11, none⟩) (Nat.le_refl _) (.int .i64 hL)).setCell (p := ⟨w.heap.size, 12, none⟩) (Nat.le_refl _) (.string o)).setCell (p := ⟨w.heap.size, 13, none⟩) (Nat.le_refl _) (.int .i64 t)).setCell (p := ⟨w.heap.size, 14, none⟩) (Nat.le_refl _) (.int .i64 sp))
    have qC : (((((((((((((((w1.setCell ⟨w.heap.size, 0, none⟩ (.int .i64 k)).setCell ⟨w.heap.size, 1, none⟩ (.int .i64 s)).setCell ⟨w.heap.size, 2, none⟩ (.int .i64 q)).setCell ⟨w.heap.size, 3, none⟩ (.int .i64 n)).setCell ⟨w.heap.size, 4, none⟩ (.bool aS)).setCell ⟨w.heap.size, 5, none⟩ (.int .i64 aH)).setCell ⟨w.heap.size, 6, none⟩ (.int .i64 aL)).setCell ⟨w.heap.size, 7, none⟩ (.int .i64 ab)).setCell ⟨w.heap.size, 8, none⟩ (.int .i64 b)).setCell ⟨w.heap.size, 9, none⟩ (.bool hS)).setCell ⟨w.heap.size, 10, none⟩ (.int .i64 hH)).setCell ⟨w.heap.size, 11, none⟩ (.int .i64 hL)).setCell ⟨w.heap.size, 12, none⟩ (.string o)).setCell ⟨w.heap.size, 13, none⟩ (.int .i64 t)).setCell ⟨w.heap.size, 14, none⟩ (.int .i64 sp)).cell? ⟨w.heap.size + 1, 0, none⟩ = some (.int .i64 3) := (cell_setF (cell_setF (cell_setF (cell_setF (cell_setF (cell_setF (cell_setF (cell_setF (cell_setF (cell_setF (cell_setF (cell_setF (cell_setF (cell_setF (cell_setF cC (by omega)) (by omega)) (by omega)) (by omega)) (by omega)) (by omega)) (by omega)) (by omega)) (by omega)) (by omega)) (by omega)) (by omega)) (by omega)) (by omega)) (by omega))
    have gC : (((((((((((((((w1.setCell ⟨w.heap.size, 0, none⟩ (.int .i64 k)).setCell ⟨w.heap.size, 1, none⟩ (.int .i64 s)).setCell ⟨w.heap.size, 2, none⟩ (.int .i64 q)).setCell ⟨w.heap.size, 3, none⟩ (.int .i64 n)).setCell ⟨w.heap.size, 4, none⟩ (.bool aS)).setCell ⟨w.heap.size, 5, none⟩ (.int .i64 aH)).setCell ⟨w.heap.size, 6, none⟩ (.int .i64 aL)).setCell ⟨w.heap.size, 7, none⟩ (.int .i64 ab)).setCell ⟨w.heap.size, 8, none⟩ (.int .i64 b)).setCell ⟨w.heap.size, 9, none⟩ (.bool hS)).setCell ⟨w.heap.size, 10, none⟩ (.int .i64 hH)).setCell ⟨w.heap.size, 11, none⟩ (.int .i64 hL)).setCell ⟨w.heap.size, 12, none⟩ (.string o)).setCell ⟨w.heap.size, 13, none⟩ (.int .i64 t)).setCell ⟨w.heap.size, 14, none⟩ (.int .i64 sp)).frozen? ⟨w.heap.size + 1, 0, none⟩ = false := (frz_setF (frz_setF (frz_setF (frz_setF (frz_setF (frz_setF (frz_setF (frz_setF (frz_setF (frz_setF (frz_setF (frz_setF (frz_setF (frz_setF (frz_setF fC)))))))))))))))
    have qI : (((((((((((((((w1.setCell ⟨w.heap.size, 0, none⟩ (.int .i64 k)).setCell ⟨w.heap.size, 1, none⟩ (.int .i64 s)).setCell ⟨w.heap.size, 2, none⟩ (.int .i64 q)).setCell ⟨w.heap.size, 3, none⟩ (.int .i64 n)).setCell ⟨w.heap.size, 4, none⟩ (.bool aS)).setCell ⟨w.heap.size, 5, none⟩ (.int .i64 aH)).setCell ⟨w.heap.size, 6, none⟩ (.int .i64 aL)).setCell ⟨w.heap.size, 7, none⟩ (.int .i64 ab)).setCell ⟨w.heap.size, 8, none⟩ (.int .i64 b)).setCell ⟨w.heap.size, 9, none⟩ (.bool hS)).setCell ⟨w.heap.size, 10, none⟩ (.int .i64 hH)).setCell ⟨w.heap.size, 11, none⟩ (.int .i64 hL)).setCell ⟨w.heap.size, 12, none⟩ (.string o)).setCell ⟨w.heap.size, 13, none⟩ (.int .i64 t)).setCell ⟨w.heap.size, 14, none⟩ (.int .i64 sp)).cell? ⟨w.heap.size + 1 + 1, 1, none⟩ = some (.int .i64 j) := (cell_setF (cell_setF (cell_setF (cell_setF (cell_setF (cell_setF (cell_setF (cell_setF (cell_setF (cell_setF (cell_setF (cell_setF (cell_setF (cell_setF (cell_setF cI (by omega)) (by omega)) (by omega)) (by omega)) (by omega)) (by omega)) (by omega)) (by omega)) (by omega)) (by omega)) (by omega)) (by omega)) (by omega)) (by omega)) (by omega))
    clear cC fC cI HB1 HX b0 f0 b1 f1 b2 f2 b3 f3 b4 f4 b5 f5 b6 f6 b7 f7 b8 f8 b9 f9 b10 f10 b11 f11 b12 f12 b13 f13 b14 f14
    generalize ((((((((((((((w1.setCell ⟨w.heap.size, 0, none⟩ (.int .i64 k)).setCell ⟨w.heap.size, 1, none⟩ (.int .i64 s)).setCell ⟨w.heap.size, 2, none⟩ (.int .i64 q)).setCell ⟨w.heap.size, 3, none⟩ (.int .i64 n)).setCell ⟨w.heap.size, 4, none⟩ (.bool aS)).setCell ⟨w.heap.size, 5, none⟩ (.int .i64 aH)).setCell ⟨w.heap.size, 6, none⟩ (.int .i64 aL)).setCell ⟨w.heap.size, 7, none⟩ (.int .i64 ab)).setCell ⟨w.heap.size, 8, none⟩ (.int .i64 b)).setCell ⟨w.heap.size, 9, none⟩ (.bool hS)).setCell ⟨w.heap.size, 10, none⟩ (.int .i64 hH)).setCell ⟨w.heap.size, 11, none⟩ (.int .i64 hL)).setCell ⟨w.heap.size, 12, none⟩ (.string o)).setCell ⟨w.heap.size, 13, none⟩ (.int .i64 t)).setCell ⟨w.heap.size, 14, none⟩ (.int .i64 sp) = W at *
    have q0 := HX2.out.cel 0 _ rfl
    have g0 := HX2.out.frz 0
    have q1 := HX2.out.cel 1 _ rfl
    have g1 := HX2.out.frz 1
    have q2 := HX2.out.cel 2 _ rfl
    have g2 := HX2.out.frz 2
    have q3 := HX2.out.cel 3 _ rfl
    have g3 := HX2.out.frz 3
    have q4 := HX2.out.cel 4 _ rfl
    have g4 := HX2.out.frz 4
    have q5 := HX2.out.cel 5 _ rfl
    have g5 := HX2.out.frz 5
    have q6 := HX2.out.cel 6 _ rfl
    have g6 := HX2.out.frz 6
    have q7 := HX2.out.cel 7 _ rfl
    have g7 := HX2.out.frz 7
    have q8 := HX2.out.cel 8 _ rfl
    have g8 := HX2.out.frz 8
    have q9 := HX2.out.cel 9 _ rfl
    have g9 := HX2.out.frz 9
    have q10 := HX2.out.cel 10 _ rfl
    have g10 := HX2.out.frz 10
    have q11 := HX2.out.cel 11 _ rfl
    have g11 := HX2.out.frz 11
    have q12 := HX2.out.cel 12 _ rfl
    have g12 := HX2.out.frz 12
    have q13 := HX2.out.cel 13 _ rfl
    have g13 := HX2.out.frz 13
    have q14 := HX2.out.cel 14 _ rfl
    have g14 := HX2.out.frz 14
    go_region
    all_goals
      go_wp2_with fail
      refine leaves_cons (f := 54) (args := #[.pointer (some ⟨w.heap.size + 1, 0, none⟩)]) (by simp) (by simp [go_sem]) ?_
      refine (catchC_n ⟨w.heap.size + 1, 0, none⟩ _).mono ?_
      rintro e u' w'' ⟨rfl, rfl, rfl⟩
      simp [Leaves, settle, results, Tryz.results34, go_sem, qC, q0, q1, q2, q3, q4, q5, q6, q7, q8, q9, q10, q11, q12, q13, q14]
      refine HGe.out _ ?_
      repeat (first | with_reducible exact HB2.out | (with_reducible refine Below.drew ?_) | (with_reducible refine Below.setCell ?_ ?_ _; rotate_left; (focus (first | omega | (simp; done) | (simp; omega)))))
  · obtain ⟨bX, cC, fC, hB1⟩ := box_cells hgr
    have HBe := hid' (fun w' hb => HBd.out f w' hE hf hb)
    have HB1 := hid' hB1
    have b0 := bX.cel 0 _ rfl
    have b1 := bX.cel 1 _ rfl
    have b2 := bX.cel 2 _ rfl
    have b3 := bX.cel 3 _ rfl
    have b4 := bX.cel 4 _ rfl
    have b5 := bX.cel 5 _ rfl
    have b6 := bX.cel 6 _ rfl
    have b7 := bX.cel 7 _ rfl
    have b8 := bX.cel 8 _ rfl
    have b9 := bX.cel 9 _ rfl
    have b10 := bX.cel 10 _ rfl
    have b11 := bX.cel 11 _ rfl
    have b12 := bX.cel 12 _ rfl
    have b13 := bX.cel 13 _ rfl
    have b14 := bX.cel 14 _ rfl
    clear hf hgr hB1 hE bX HGd HBd
    go_wp2_with fail
    refine leaves_cons (f := 54) (args := #[.pointer (some ⟨w.heap.size + 1, 0, none⟩)]) (by simp) (by simp [go_sem]) ?_
    refine (catchC_p ⟨w.heap.size + 1, 0, none⟩ 3 f [] _ cC fC).mono ?_
    rintro e u' w'' ⟨rfl, rfl, rfl⟩
    simp [Leaves, settle, results, Tryz.results34, go_sem, cC, b0, b1, b2, b3, b4, b5, b6, b7, b8, b9, b10, b11, b12, b13, b14]
    exact HBe.out _ (HB1.out.setCell (Nat.le_succ _) _)

end Go.Proofs.YtnchndcanhmbeaaGreatDoor
