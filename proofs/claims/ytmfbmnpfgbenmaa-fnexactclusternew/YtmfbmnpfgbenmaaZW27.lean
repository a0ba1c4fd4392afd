/-
  Kinds that own their memory.
-/
import Derived.Test.YtmfbmnpfgbenmaaZW26
import Derived.Test.YtmfbmnpfgbenmaaZW15
import Derived.Test.YtmfbmnpfgbenmaaZW5
import Derived.Test.YtmfbmnpfgbenmaaZW6
import Derived.Test.YtmfbmnpfgbenmaaZW11
namespace Go.Proofs.Ytmfbmnpfgbenmaa
open Go.ChangeShapes Go.WideShapes Go.RowKit

def mIntS := mRow mInt
def mGroup := mTwo (mTwo mNil mIntS) mIntS
def mByteS := mRow mByte
def mEntry := mTwo (mTwo (mTwo mNil mInt) mInt) mByteS
def mEntryS := mRow mEntry
def mKeep := mTwo (mTwo (mTwo (mTwo (mTwo (mTwo (mTwo mNil mInt) mInt) mInt) mInt) mGroup) mByteS) mEntryS
def mServer := mTwo (mTwo (mTwo (mTwo (mTwo (mTwo (mTwo (mTwo (mTwo (mTwo mNil mInt) mKeep) mInt) mInt) mInt) mIntS) (mArr 8)) (mArr 8)) mInt) mInt

end Go.Proofs.Ytmfbmnpfgbenmaa

/-
  Looks at Keeps that have no entries and no snapshot, their marks; both KeepNew.
-/
namespace Go.Proofs.Ytmfbmnpfgbenmaa
open Go.ChangeShapes Go.WideShapes Go.ChangeAt Go.RowKit Go.Joins Go.Deep

theorem box8K (w : World) (t : TypeId) (x0 x1 x2 x3 x4 x5 x6 x7 : Value) : (w.alloc (.cells #[x0, x1, x2, x3, x4, x5, x6, x7] t)).cell? ⟨w.heap.size, 0, none⟩ = some x0 ∧ (w.alloc (.cells #[x0, x1, x2, x3, x4, x5, x6, x7] t)).cell? ⟨w.heap.size, 1, none⟩ = some x1 ∧ (w.alloc (.cells #[x0, x1, x2, x3, x4, x5, x6, x7] t)).cell? ⟨w.heap.size, 2, none⟩ = some x2 ∧ (w.alloc (.cells #[x0, x1, x2, x3, x4, x5, x6, x7] t)).cell? ⟨w.heap.size, 3, none⟩ = some x3 ∧ (w.alloc (.cells #[x0, x1, x2, x3, x4, x5, x6, x7] t)).cell? ⟨w.heap.size, 4, none⟩ = some x4 ∧ (w.alloc (.cells #[x0, x1, x2, x3, x4, x5, x6, x7] t)).cell? ⟨w.heap.size, 5, none⟩ = some x5 ∧ (w.alloc (.cells #[x0, x1, x2, x3, x4, x5, x6, x7] t)).cell? ⟨w.heap.size, 6, none⟩ = some x6 ∧ (w.alloc (.cells #[x0, x1, x2, x3, x4, x5, x6, x7] t)).cell? ⟨w.heap.size, 7, none⟩ = some x7 := ⟨by simp [go_sem], by simp [go_sem], by simp [go_sem], by simp [go_sem], by simp [go_sem], by simp [go_sem], by simp [go_sem], by simp [go_sem]⟩

end Go.Proofs.Ytmfbmnpfgbenmaa

/-
  The program's lastIndex, logOk and baseOk of any Keep.
-/
namespace Go.Proofs.Ytmfbmnpfgbenmaa
open Go.ChangeShapes Go.WideShapes Go.ChangeAt Go.RowKit Go.Joins Go.Deep

set_option maxRecDepth 10000 in
set_option maxHeartbeats 4000000 in
theorem lastIx (k : Kv) (w : World) (h1 : 0 ≤ k.B ∧ k.B ≤ 1000000) (h2 : k.ln ≤ 120) :
    Calls Try.prog 111 #[k.v] w fun e w' => e = .returned (.int .i64 (k.B + (k.ln : Int))) ∧ Below w.heap.size w w' := by
  have wl : IntKind.i64.wrap (k.B + (k.ln : Int)) = k.B + (k.ln : Int) := by rw [IntKind.wrap_i64]; omega
  go_enter Try.func111, Try.ntmps111
  go_wp2_with fail
  go_ret
  exact ⟨rfl, alloc_below w _⟩

/-- What logOk asks. -/
def loB (k : Kv) : Bool := decide ((k.ln : Int) ≤ 120) && (decide (k.B + (k.ln : Int) ≤ 1000000) && (risE k.E k.es && decide (lasE k.E k.es ≤ k.T)))

set_option maxRecDepth 10000 in
set_option maxHeartbeats 4000000 in
theorem logOk_any (k : Kv) (w : World) (hr : KvR w k) (hB : 0 ≤ k.B ∧ k.B ≤ 1000000) :
    Calls Try.prog 95 #[k.v] w fun e w' => e = .returned (.bool (loB k)) ∧ Below w.heap.size w w' := by
  unfold loB
  by_cases h1 : (k.ln : Int) ≤ 120
  · have HL := hidP (fun W => lastIx k W hB (by omega))
    rw [decide_eq_true h1, Bool.true_and]
    have hE := hidP (fun W (hb : Below w.heap.size w W) => entriesOk_any k.la k.ln k.lc k.es k.E k.T W hr.hl (by omega) (hr.rl.later hb) (fun e he => (hr.dt e he).later hb))
    generalize (risE k.E k.es && decide (lasE k.E k.es ≤ k.T)) = R at *
    generalize hz : k.B + (k.ln : Int) = z at *
    clear hr hB hz
    obtain ⟨T, V, B, E, ga, gn, gc, ha, hn, hc, sa, sn, sc, la, ln, lc, ps, bs, es⟩ := k
    simp only at h1 hE HL
    have g1 : decide ((ln : Int) ≤ 120) = true := decide_eq_true h1
    cases h2 : decide (z ≤ 1000000)
    · have h3 : ¬ z ≤ 1000000 := of_decide_eq_false h2
      clear hE h1
      go_enter Try.func95, Try.ntmps95
      go_wp2_with fail
      refine (HL.out _).mono ?_
      rintro e w2 ⟨rfl, hb2⟩
      have HB := hidP ((alloc_below w _).trans (hb2.mono (alloc_below w (.cells #[.int .i64 T, .int .i64 V, .int .i64 B, .int .i64 E, .slice ga gn gc, .slice ha hn hc, .slice sa sn sc, .slice la ln lc] 54)).size))
      clear hb2
      go_wp2_with fail
      go_ret
      exact ⟨rfl, HB.out⟩
    · have h3 : z ≤ 1000000 := of_decide_eq_true h2
      clear h1
      go_enter Try.func95, Try.ntmps95
      go_wp2_with fail
      obtain ⟨b0, b1, b2, b3, b4, b5, b6, b7⟩ := box8K w 54 (.int .i64 T) (.int .i64 V) (.int .i64 B) (.int .i64 E) (.slice ga gn gc) (.slice ha hn hc) (.slice sa sn sc) (.slice la ln lc)
      have bB := alloc_below w (.cells #[.int .i64 T, .int .i64 V, .int .i64 B, .int .i64 E, .slice ga gn gc, .slice ha hn hc, .slice sa sn sc, .slice la ln lc] 54)
      have bL : w.heap.size < (w.alloc (.cells #[.int .i64 T, .int .i64 V, .int .i64 B, .int .i64 E, .slice ga gn gc, .slice ha hn hc, .slice sa sn sc, .slice la ln lc] 54)).heap.size := by simp
      generalize w.alloc (.cells #[.int .i64 T, .int .i64 V, .int .i64 B, .int .i64 E, .slice ga gn gc, .slice ha hn hc, .slice sa sn sc, .slice la ln lc] 54) = W1 at *
      refine (HL.out _).mono ?_
      rintro e w2 ⟨rfl, hb2⟩
      have c3 := (hb2.cell bL).trans b3
      have c0 := (hb2.cell bL).trans b0
      have c7 := (hb2.cell bL).trans b7
      have HB := hidP (bB.trans (hb2.mono bB.size))
      clear hb2 b0 b1 b2 b3 b4 b5 b6 b7 bB
      go_wp2_with fail
      refine (hE.out _ HB.out).mono ?_
      rintro e w3 ⟨rfl, hb3⟩
      have HB3 := hidP (HB.out.trans (hb3.mono HB.out.size))
      clear hb3
      go_wp2_with fail
      go_ret
      exact ⟨rfl, HB3.out⟩
  · rw [decide_eq_false h1, Bool.false_and]
    clear hr hB
    obtain ⟨T, V, B, E, ga, gn, gc, ha, hn, hc, sa, sn, sc, la, ln, lc, ps, bs, es⟩ := k
    simp only at h1
    have g1 : decide ((ln : Int) ≤ 120) = false := decide_eq_false h1
    go_enter Try.func95, Try.ntmps95
    go_wp2_with fail
    go_ret
    exact ⟨rfl, alloc_below w _⟩

/-- What baseOk asks. -/
def baB (k : Kv) : Bool := if k.B = 0 then (k.E == 0) && ((k.sn : Int) == 0) else (decide (1 ≤ k.B) && decide (k.B ≤ 1000000)) && (decide (1 ≤ k.E) && (decide (k.E ≤ k.T) && decide ((k.sn : Int) ≤ 20000)))
theorem baB_0 {k : Kv} (h : k.B = 0) : baB k = ((k.E == 0) && ((k.sn : Int) == 0)) := if_pos h
theorem baB_1 {k : Kv} (h : ¬ k.B = 0) : baB k = ((decide (1 ≤ k.B) && decide (k.B ≤ 1000000)) && (decide (1 ≤ k.E) && (decide (k.E ≤ k.T) && decide ((k.sn : Int) ≤ 20000)))) := if_neg h
theorem baB_b {k : Kv} (h : baB k = true) : 0 ≤ k.B ∧ k.B ≤ 1000000 := by
  by_cases h0 : k.B = 0
  · omega
  · rw [baB_1 h0, Bool.and_eq_true, Bool.and_eq_true, decide_eq_true_eq, decide_eq_true_eq] at h
    omega

set_option maxRecDepth 10000 in
set_option maxHeartbeats 4000000 in
theorem baseOk_any (k : Kv) (w : World) :
    Calls Try.prog 94 #[k.v] w fun e w' => e = .returned (.bool (baB k)) ∧ Below w.heap.size w w' := by
  by_cases h0 : k.B = 0
  · rw [baB_0 h0]
    obtain ⟨T, V, B, E, ga, gn, gc, ha, hn, hc, sa, sn, sc, la, ln, lc, ps, bs, es⟩ := k
    simp only at h0 ⊢
    subst h0
    cases h1 : (E == 0)
    · have h2 : ¬ E = 0 := by simpa using h1
      go_enter Try.func94, Try.ntmps94
      go_wp2_with fail
      go_ret
      exact ⟨rfl, alloc_below w _⟩
    · have h2 : E = 0 := by simpa using h1
      subst h2
      go_enter Try.func94, Try.ntmps94
      go_wp2_with fail
      go_ret
      exact ⟨rfl, alloc_below w _⟩
  · rw [baB_1 h0]
    obtain ⟨T, V, B, E, ga, gn, gc, ha, hn, hc, sa, sn, sc, la, ln, lc, ps, bs, es⟩ := k
    simp only at h0 ⊢
    have e1 : (B == 0) = false := by simpa using h0
    cases h1 : decide (1 ≤ B)
    · go_enter Try.func94, Try.ntmps94
      go_wp2_with fail
      go_ret
      exact ⟨rfl, alloc_below w _⟩
    · cases h2 : decide (B ≤ 1000000)
      · go_enter Try.func94, Try.ntmps94
        go_wp2_with fail
        go_ret
        exact ⟨rfl, alloc_below w _⟩
      · cases h3 : decide (1 ≤ E)
        · go_enter Try.func94, Try.ntmps94
          go_wp2_with fail
          go_ret
          exact ⟨rfl, alloc_below w _⟩
        · cases h4 : decide (E ≤ T)
          · go_enter Try.func94, Try.ntmps94
            go_wp2_with fail
            go_ret
            exact ⟨rfl, alloc_below w _⟩
          · go_enter Try.func94, Try.ntmps94
            go_wp2_with fail
            go_ret
            exact ⟨rfl, alloc_below w _⟩

end Go.Proofs.Ytmfbmnpfgbenmaa

/-
  The specification's EntryOk of an entry whose bytes begin their block; what both KeepOk ask.
-/
namespace Go.Proofs.Ytmfbmnpfgbenmaa
open Go.ChangeShapes Go.WideShapes Go.ChangeAt Go.RowKit Go.Joins Go.Deep

def inB (n l m : Int) : Bool := decide (l ≤ n) && decide (n ≤ m)
theorem sGetG_gB (n : Nat) (zs : List Int) (hn : n = zs.length) (ho : Oct zs) :
    ∃ NP NB : Nat, ∀ (g : Nat) (W : World), RowG KBy W (some ⟨g, 0, none⟩) zs → Calls Try.prog 110 #[.slice (some ⟨g, 0, none⟩) n n] W fun e w' => ∃ a c b d, e = .returned (.tuple #[.agg #[.slice a NP c, .slice b NB d], .bool (gB zs)]) ∧ Below W.heap.size W w' := by
  by_cases h2 : n = 2
  · subst h2
    match zs, hn with
    | [u, v], _ =>
      have hu := ho u (by simp)
      have hv := ho v (by simp)
      obtain ⟨bx, rfl⟩ : ∃ bx : Nat, u = (bx : Int) := ⟨u.toNat, by omega⟩
      obtain ⟨bq, rfl⟩ : ∃ bq : Nat, v = (bq : Int) := ⟨v.toNat, by omega⟩
      have hx : bx < 256 := by omega
      have hy : bq < 256 := by omega
      have hs := got_s bx bq hx hy
      have eg : gB [(bx : Int), (bq : Int)] = gotB bx bq := by unfold gB; simp
      rw [eg]
      cases hg : gotB bx bq
      · rw [hg] at hs
        refine ⟨0, 0, fun g W e1 => ?_⟩
        cases hr : grB (lsB 7 bx 1) (lsB 7 bq 1)
        · exact (sGg_nok g bx bq hx hy W e1 hr).mono fun e w' ⟨a, c, b, d, he, _, _, _, hb⟩ => ⟨a, c, b, d, he, hb⟩
        · rw [hr, Bool.true_and] at hs
          exact (sGg_dif g bx bq hx hy W e1 hr hs).mono fun e w' ⟨a, c, b, d, he, _, _, _, hb⟩ => ⟨a, c, b, d, he, hb⟩
      · rw [hg, Bool.and_eq_true] at hs
        exact ⟨(lsB 7 bx 1).length, (lsB 7 bq 1).length, fun g W e1 => (sGg_good g bx bq hx hy W e1 hs.1 hs.2).mono fun e w' ⟨a, c, b, d, he, _, _, _, hb⟩ => ⟨a, c, b, d, he, hb⟩⟩
  · have eg : gB zs = false := by
      match zs, hn with
      | [], _ => rfl
      | [_], _ => rfl
      | [_, _], hn => exact absurd hn h2
      | _ :: _ :: _ :: _, _ => rfl
    rw [eg]
    exact ⟨0, 0, fun g W _ => (sGg_len _ n n h2 W).mono fun e w' ⟨a, c, b, d, he, _, _, _, hb⟩ => ⟨a, c, b, d, he, hb⟩⟩

theorem sEntry_any (e : En) (w : World) (hd : DatR w e) (hf : EnF e) :
    Calls Try.prog 92 #[.agg #[.int .i64 e.T, .int .i64 e.K, .slice e.a e.n e.c]] w fun x w' => x = .returned (.bool e.ok) ∧ Below w.heap.size w w' := by
  obtain ⟨⟨g, ha⟩, hc⟩ := hf
  obtain ⟨NP, NB, h⟩ := sGetG_gB e.n e.zs hd.1 hd.2.1
  have hr := hd.2.2
  rw [ha] at hr ⊢
  rw [hc]
  exact sEntryOk_any _ e.n e.n e.T e.K (gB e.zs) NP NB w (fun _ W hb => h g W (hr.later hb))

/-- Entries right, each term from the one ahead to the latest. -/
def rngE (M : Int) : Int → List En → Bool
  | _, [] => true
  | l, e :: t => (e.ok && inB e.T l M) && rngE M e.T t
theorem lasE_ge : ∀ (es : List En) (l : Int), risE l es = true → l ≤ lasE l es
  | [], l, _ => Int.le_refl _
  | e :: t, l, h => by
      rw [risE_split, Bool.and_eq_true, Bool.and_eq_true, decide_eq_true_eq] at h
      rw [lasE_cons]
      exact Int.le_trans h.1.2 (lasE_ge t e.T h.2)
theorem rng_same (M : Int) : ∀ (es : List En) (l : Int), l ≤ M → rngE M l es = (risE l es && decide (lasE l es ≤ M))
  | [], l, h => by show true = (true && decide (l ≤ M)); rw [decide_eq_true h]; rfl
  | e :: t, l, h => by
      rw [risE_split, lasE_cons]
      show ((e.ok && inB e.T l M) && rngE M e.T t) = _
      unfold inB
      by_cases hM : e.T ≤ M
      · rw [rng_same M t e.T hM, decide_eq_true hM, Bool.and_true]
        simp only [Bool.and_assoc]
      · rw [decide_eq_false hM, Bool.and_false, Bool.and_false, Bool.false_and]
        cases hr : risE e.T t
        · rw [Bool.and_false, Bool.false_and]
        · have := lasE_ge t e.T hr
          rw [decide_eq_false (show ¬ lasE e.T t ≤ M by omega), Bool.and_false]
theorem l1In14 (n l m : Int) (r : Bool) (h : inB n l m = r) (w : World) :
    Calls Try.prog 17 #[.int .i64 n, .int .i64 l, .int .i64 m] w fun e w' => e = .returned (.bool r) ∧ w = w' := h ▸ l1In12 n l m w


/-- What the specification asks ahead of the entries. -/
def kaB (k : Kv) : Bool := inB k.T 0 1000000 && (inB k.V 0 7 && (inB k.B 0 (1000000 - (k.ln : Int)) && (inB k.E 0 k.T && ((k.B == 0) == (k.E == 0) && (grB k.ps k.bs && (decide ((k.sn : Int) ≤ 20000) && (!((k.B == 0) && decide ((k.sn : Int) > 0)) && decide ((k.ln : Int) ≤ 120))))))))
/-- A right Keep. -/
def kvB (k : Kv) : Bool := (decide (0 ≤ k.T) && decide (k.T ≤ 1000000)) && ((decide (0 ≤ k.V) && decide (k.V ≤ 7)) && (baB k && (grB k.ps k.bs && loB k)))
theorem beqZ (x : Int) : (x == 0) = decide (x = 0) := by
  by_cases h : x = 0
  · rw [decide_eq_true h]; simpa using h
  · rw [decide_eq_false h]; simpa using h
theorem kv_same (k : Kv) : (kaB k && rngE k.T k.E k.es) = kvB k := by
  rw [Bool.eq_iff_iff]
  unfold kaB kvB loB inB
  constructor
  · intro h
    simp only [Bool.and_eq_true, decide_eq_true_eq, beq_iff_eq, Bool.not_eq_true', Bool.and_eq_false_iff, decide_eq_false_iff_not, beqZ] at h
    obtain ⟨⟨⟨t0, t1⟩, ⟨v0, v1⟩, ⟨b0, b1⟩, ⟨e0, e1⟩, q, g, s, z, l⟩, r⟩ := h
    have q2 : k.B = 0 ↔ k.E = 0 := by
      have := Bool.eq_iff_iff.1 q
      simpa only [decide_eq_true_eq] using this
    rw [rng_same k.T k.es k.E e1, Bool.and_eq_true, decide_eq_true_eq] at r
    have hb : baB k = true := by
      by_cases h0 : k.B = 0
      · rw [baB_0 h0, beqZ, beqZ, decide_eq_true (q2.1 h0), decide_eq_true (by omega)]; rfl
      · rw [baB_1 h0, decide_eq_true (by omega), decide_eq_true (by omega), decide_eq_true (by omega), decide_eq_true e1, decide_eq_true s]; rfl
    rw [hb, g, r.1, decide_eq_true t0, decide_eq_true t1, decide_eq_true v0, decide_eq_true v1, decide_eq_true l, decide_eq_true r.2, decide_eq_true (by omega)]
    rfl
  · intro h
    simp only [Bool.and_eq_true, decide_eq_true_eq] at h
    obtain ⟨⟨t0, t1⟩, ⟨v0, v1⟩, b, g, l, x, r, la⟩ := h
    have hb := baB_b b
    have hh : (k.B = 0 ↔ k.E = 0) ∧ 0 ≤ k.E ∧ k.E ≤ k.T ∧ (k.sn : Int) ≤ 20000 ∧ (k.B = 0 → (k.sn : Int) = 0) := by
      by_cases h0 : k.B = 0
      · rw [baB_0 h0, beqZ, beqZ, Bool.and_eq_true, decide_eq_true_eq, decide_eq_true_eq] at b
        omega
      · rw [baB_1 h0] at b
        simp only [Bool.and_eq_true, decide_eq_true_eq] at b
        omega
    obtain ⟨q, e0, e1, s, z⟩ := hh
    have hq : ((k.B == 0) == (k.E == 0)) = true := by
      rw [beqZ, beqZ, beq_iff_eq, Bool.eq_iff_iff, decide_eq_true_eq, decide_eq_true_eq]; exact q
    have hz : (!((k.B == 0) && decide ((k.sn : Int) > 0))) = true := by
      rw [beqZ]
      by_cases h0 : k.B = 0
      · rw [decide_eq_false (show ¬ (k.sn : Int) > 0 by have := z h0; omega), Bool.and_false]; rfl
      · rw [decide_eq_false h0, Bool.false_and]; rfl
    rw [hq, hz, rng_same k.T k.es k.E e1, r, g, decide_eq_true t0, decide_eq_true t1, decide_eq_true v0, decide_eq_true v1, decide_eq_true l, decide_eq_true la, decide_eq_true e0, decide_eq_true e1, decide_eq_true s, decide_eq_true hb.1, decide_eq_true (show k.B ≤ 1000000 - (k.ln : Int) by omega)]
    rfl
theorem kvB_no {k : Kv} (h : ((decide (0 ≤ k.T) && decide (k.T ≤ 1000000)) && (decide (0 ≤ k.V) && decide (k.V ≤ 7))) = false) : kvB k = false := by
  unfold kvB
  rw [← Bool.and_assoc, h, Bool.false_and]

end Go.Proofs.Ytmfbmnpfgbenmaa

/-
  The program's KeepOk, lastIndex, termAt, LastEntry and TermAt of a right Keep.
-/
namespace Go.Proofs.Ytmfbmnpfgbenmaa
open Go.ChangeShapes Go.WideShapes Go.ChangeAt Go.RowKit Go.Joins Go.Deep

theorem KvOk.b {k : Kv} (h : KvOk k) : 0 ≤ k.B ∧ k.B ≤ 1000000 := by rcases h.bs with h | h <;> omega

end Go.Proofs.Ytmfbmnpfgbenmaa

/-
  The program's KeepOk of any Keep.
-/
namespace Go.Proofs.Ytmfbmnpfgbenmaa
open Go.ChangeShapes Go.WideShapes Go.ChangeAt Go.RowKit Go.Joins Go.Deep

set_option maxRecDepth 10000 in
set_option maxHeartbeats 8000000 in
theorem iKeep_any (k : Kv) (w : World) (hs : k.gn ≤ 1048576 ∧ k.hn ≤ 1048576) (hr : KvR w k) :
    Calls Try.prog 66 #[k.v] w fun e w' => e = .returned (.bool (kvB k)) ∧ Below w.heap.size w w' := by
  cases ht : ((decide (0 ≤ k.T) && decide (k.T ≤ 1000000)) && (decide (0 ≤ k.V) && decide (k.V ≤ 7)))
  · rw [kvB_no ht]
    clear hr hs
    obtain ⟨T, V, B, E, ga, gn, gc, ha, hn, hc, sa, sn, sc, la, ln, lc, ps, bs, es⟩ := k
    simp only at ht
    cases a1 : decide (0 ≤ T) <;> cases a2 : decide (T ≤ 1000000) <;> cases a3 : decide (0 ≤ V) <;> cases a4 : decide (V ≤ 7) <;> first
      | (exfalso; rw [a1, a2, a3, a4] at ht; exact absurd ht (by decide))
      | (clear ht
         go_enter Try.func66, Try.ntmps66
         go_wp2_with fail
         go_ret
         exact ⟨rfl, alloc_below w _⟩)
  · have HBs := hidP (fun W => baseOk_any k W)
    have HGr := hidP (fun W h => iGroupOk_any k.ga k.gn k.gc k.ha k.hn k.hc k.ps k.bs W hr.hg hr.hh (hr.rg.later h) (hr.rh.later h) hs.1 hs.2)
    have HLo := hidP (fun (hb : baB k = true) W h => logOk_any k W (hr.later h) (baB_b hb))
    unfold kvB
    rw [Bool.and_eq_true] at ht
    rw [ht.1, ht.2, Bool.true_and, Bool.true_and]
    simp only [Bool.and_eq_true, decide_eq_true_eq] at ht
    obtain ⟨⟨t0, t1⟩, t2, t3⟩ := ht
    have a1 : decide (0 ≤ k.T) = true := decide_eq_true t0
    have a2 : decide (k.T ≤ 1000000) = true := decide_eq_true t1
    have a3 : decide (0 ≤ k.V) = true := decide_eq_true t2
    have a4 : decide (k.V ≤ 7) = true := decide_eq_true t3
    clear hr hs t0 t1 t2 t3
    cases hb : baB k
    · rw [hb] at HBs
      clear hb HGr HLo
      obtain ⟨T, V, B, E, ga, gn, gc, ha, hn, hc, sa, sn, sc, la, ln, lc, ps, bs, es⟩ := k
      simp only at a1 a2 a3 a4 HBs
      go_enter Try.func66, Try.ntmps66
      go_wp2_with fail
      refine (HBs.out _).mono ?_
      rintro e w2 ⟨rfl, hb2⟩
      have HB := hidP ((alloc_below w (.cells #[.int .i64 T, .int .i64 V, .int .i64 B, .int .i64 E, .slice ga gn gc, .slice ha hn hc, .slice sa sn sc, .slice la ln lc] 54)).trans (hb2.mono (alloc_below w _).size))
      clear hb2
      go_wp2_with fail
      go_ret
      exact ⟨rfl, HB.out⟩
    · rw [hb] at HBs
      have HL2 := hidP (HLo.out hb)
      clear HLo hb
      rw [Bool.true_and]
      generalize grB k.ps k.bs = G at *
      generalize loB k = R at *
      obtain ⟨T, V, B, E, ga, gn, gc, ha, hn, hc, sa, sn, sc, la, ln, lc, ps, bs, es⟩ := k
      simp only at a1 a2 a3 a4 HBs HGr HL2
      cases G
      · clear HL2
        go_enter Try.func66, Try.ntmps66
        go_wp2_with fail
        obtain ⟨b0, b1, b2, b3, b4, b5, b6, b7⟩ := box8K w 54 (.int .i64 T) (.int .i64 V) (.int .i64 B) (.int .i64 E) (.slice ga gn gc) (.slice ha hn hc) (.slice sa sn sc) (.slice la ln lc)
        have bB := alloc_below w (.cells #[.int .i64 T, .int .i64 V, .int .i64 B, .int .i64 E, .slice ga gn gc, .slice ha hn hc, .slice sa sn sc, .slice la ln lc] 54)
        have bL : w.heap.size < (w.alloc (.cells #[.int .i64 T, .int .i64 V, .int .i64 B, .int .i64 E, .slice ga gn gc, .slice ha hn hc, .slice sa sn sc, .slice la ln lc] 54)).heap.size := by simp
        generalize w.alloc (.cells #[.int .i64 T, .int .i64 V, .int .i64 B, .int .i64 E, .slice ga gn gc, .slice ha hn hc, .slice sa sn sc, .slice la ln lc] 54) = W1 at *
        refine (HBs.out _).mono ?_
        rintro e w2 ⟨rfl, hb2⟩
        have c0 := (hb2.cell bL).trans b0
        have c1 := (hb2.cell bL).trans b1
        have c2 := (hb2.cell bL).trans b2
        have c3 := (hb2.cell bL).trans b3
        have c4 := (hb2.cell bL).trans b4
        have c5 := (hb2.cell bL).trans b5
        have c6 := (hb2.cell bL).trans b6
        have c7 := (hb2.cell bL).trans b7
        have cL := Nat.lt_of_lt_of_le bL hb2.size
        have CB := hidP (bB.trans (hb2.mono bB.size))
        clear hb2 b0 b1 b2 b3 b4 b5 b6 b7 bB bL
        go_wp2_with fail
        refine (HGr.out _ CB.out).mono ?_
        rintro e w3 ⟨rfl, hb3⟩
        have HB := hidP (CB.out.trans (hb3.mono CB.out.size))
        clear hb3
        go_wp2_with fail
        go_ret
        exact ⟨rfl, HB.out⟩
      · rw [Bool.true_and]
        go_enter Try.func66, Try.ntmps66
        go_wp2_with fail
        obtain ⟨b0, b1, b2, b3, b4, b5, b6, b7⟩ := box8K w 54 (.int .i64 T) (.int .i64 V) (.int .i64 B) (.int .i64 E) (.slice ga gn gc) (.slice ha hn hc) (.slice sa sn sc) (.slice la ln lc)
        have bB := alloc_below w (.cells #[.int .i64 T, .int .i64 V, .int .i64 B, .int .i64 E, .slice ga gn gc, .slice ha hn hc, .slice sa sn sc, .slice la ln lc] 54)
        have bL : w.heap.size < (w.alloc (.cells #[.int .i64 T, .int .i64 V, .int .i64 B, .int .i64 E, .slice ga gn gc, .slice ha hn hc, .slice sa sn sc, .slice la ln lc] 54)).heap.size := by simp
        generalize w.alloc (.cells #[.int .i64 T, .int .i64 V, .int .i64 B, .int .i64 E, .slice ga gn gc, .slice ha hn hc, .slice sa sn sc, .slice la ln lc] 54) = W1 at *
        refine (HBs.out _).mono ?_
        rintro e w2 ⟨rfl, hb2⟩
        have c0 := (hb2.cell bL).trans b0
        have c1 := (hb2.cell bL).trans b1
        have c2 := (hb2.cell bL).trans b2
        have c3 := (hb2.cell bL).trans b3
        have c4 := (hb2.cell bL).trans b4
        have c5 := (hb2.cell bL).trans b5
        have c6 := (hb2.cell bL).trans b6
        have c7 := (hb2.cell bL).trans b7
        have cL := Nat.lt_of_lt_of_le bL hb2.size
        have CB := hidP (bB.trans (hb2.mono bB.size))
        clear hb2 b0 b1 b2 b3 b4 b5 b6 b7 bB bL
        go_wp2_with fail
        refine (HGr.out _ CB.out).mono ?_
        rintro e w3 ⟨rfl, hb3⟩
        have d0 := (hb3.cell cL).trans c0
        have d1 := (hb3.cell cL).trans c1
        have d2 := (hb3.cell cL).trans c2
        have d3 := (hb3.cell cL).trans c3
        have d4 := (hb3.cell cL).trans c4
        have d5 := (hb3.cell cL).trans c5
        have d6 := (hb3.cell cL).trans c6
        have d7 := (hb3.cell cL).trans c7
        have HB := hidP (CB.out.trans (hb3.mono CB.out.size))
        clear hb3 CB cL c0 c1 c2 c3 c4 c5 c6 c7
        go_wp2_with fail
        refine (HL2.out _ HB.out).mono ?_
        rintro e w4 ⟨rfl, hb4⟩
        have HB4 := hidP (HB.out.trans (hb4.mono HB.out.size))
        clear hb4
        go_wp2_with fail
        go_ret
        exact ⟨rfl, HB4.out⟩

end Go.Proofs.Ytmfbmnpfgbenmaa
