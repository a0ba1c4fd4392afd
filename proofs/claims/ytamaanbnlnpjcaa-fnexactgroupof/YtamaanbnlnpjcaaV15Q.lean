/-
  The specification's EntryOk of an entry whose bytes begin their block; what both KeepOk ask.
-/
import Derived.Test.YtamaanbnlnpjcaaV13M
import Derived.Test.YtamaanbnlnpjcaaV14R
namespace Go.Proofs.Ytamaanbnlnpjcaa
open Go.ChangeShapes Go.WideShapes Go.ChangeAt Go.RowKit Go.Joins Go.Deep

def inB (n l m : Int) : Bool := decide (l ≤ n) && decide (n ≤ m)
theorem sGetG_gB (n : Nat) (zs : List Int) (hn : n = zs.length) (ho : Oct zs) :
    ∃ NP NB : Nat, ∀ (g : Nat) (W : World), RowG KBy W (some ⟨g, 0, none⟩) zs → Calls Try.prog 84 #[.slice (some ⟨g, 0, none⟩) n n] W fun e w' => ∃ a c b d, e = .returned (.tuple #[.agg #[.slice a NP c, .slice b NB d], .bool (gB zs)]) ∧ Below W.heap.size W w' := by
  by_cases h2 : n = 2
  · subst h2
    match zs, hn with
    | [u, v], _ =>
      have hu := ho u (by simp)
      have hv := ho v (by simp)
      obtain ⟨bx, rfl⟩ : ∃ bx : Nat, u = (bx : Int) := ⟨u.toNat, by omega⟩
      obtain ⟨bq, rfl⟩ : ∃ bq : Nat, v = (bq : Int) := ⟨v.toNat, by omega⟩
      have hx : bx < 256 := by omega
      have hy : bq < 256 := by omega
      have hs := got_s bx bq hx hy
      have eg : gB [(bx : Int), (bq : Int)] = gotB bx bq := by unfold gB; simp
      rw [eg]
      cases hg : gotB bx bq
      · rw [hg] at hs
        refine ⟨0, 0, fun g W e1 => ?_⟩
        cases hr : grB (lsB 7 bx 1) (lsB 7 bq 1)
        · exact (sGg_nok g bx bq hx hy W e1 hr).mono fun e w' ⟨a, c, b, d, he, _, _, _, hb⟩ => ⟨a, c, b, d, he, hb⟩
        · rw [hr, Bool.true_and] at hs
          exact (sGg_dif g bx bq hx hy W e1 hr hs).mono fun e w' ⟨a, c, b, d, he, _, _, _, hb⟩ => ⟨a, c, b, d, he, hb⟩
      · rw [hg, Bool.and_eq_true] at hs
        exact ⟨(lsB 7 bx 1).length, (lsB 7 bq 1).length, fun g W e1 => (sGg_good g bx bq hx hy W e1 hs.1 hs.2).mono fun e w' ⟨a, c, b, d, he, _, _, _, hb⟩ => ⟨a, c, b, d, he, hb⟩⟩
  · have eg : gB zs = false := by
      match zs, hn with
      | [], _ => rfl
      | [_], _ => rfl
      | [_, _], hn => exact absurd hn h2
      | _ :: _ :: _ :: _, _ => rfl
    rw [eg]
    exact ⟨0, 0, fun g W _ => (sGg_len _ n n h2 W).mono fun e w' ⟨a, c, b, d, he, _, _, _, hb⟩ => ⟨a, c, b, d, he, hb⟩⟩

theorem sEntry_any (e : En) (w : World) (hd : DatR w e) (hf : EnF e) :
    Calls Try.prog 49 #[.agg #[.int .i64 e.T, .int .i64 e.K, .slice e.a e.n e.c]] w fun x w' => x = .returned (.bool e.ok) ∧ Below w.heap.size w w' := by
  obtain ⟨⟨g, ha⟩, hc⟩ := hf
  obtain ⟨NP, NB, h⟩ := sGetG_gB e.n e.zs hd.1 hd.2.1
  have hr := hd.2.2
  rw [ha] at hr ⊢
  rw [hc]
  exact sEntryOk_any _ e.n e.n e.T e.K (gB e.zs) NP NB w (fun _ W hb => h g W (hr.later hb))

/-- Entries right, each term from the one ahead to the latest. -/
def rngE (M : Int) : Int → List En → Bool
  | _, [] => true
  | l, e :: t => (e.ok && inB e.T l M) && rngE M e.T t
theorem lasE_ge : ∀ (es : List En) (l : Int), risE l es = true → l ≤ lasE l es
  | [], l, _ => Int.le_refl _
  | e :: t, l, h => by
      rw [risE_split, Bool.and_eq_true, Bool.and_eq_true, decide_eq_true_eq] at h
      rw [lasE_cons]
      exact Int.le_trans h.1.2 (lasE_ge t e.T h.2)
theorem rng_same (M : Int) : ∀ (es : List En) (l : Int), l ≤ M → rngE M l es = (risE l es && decide (lasE l es ≤ M))
  | [], l, h => by show true = (true && decide (l ≤ M)); rw [decide_eq_true h]; rfl
  | e :: t, l, h => by
      rw [risE_split, lasE_cons]
      show ((e.ok && inB e.T l M) && rngE M e.T t) = _
      unfold inB
      by_cases hM : e.T ≤ M
      · rw [rng_same M t e.T hM, decide_eq_true hM, Bool.and_true]
        simp only [Bool.and_assoc]
      · rw [decide_eq_false hM, Bool.and_false, Bool.and_false, Bool.false_and]
        cases hr : risE e.T t
        · rw [Bool.and_false, Bool.false_and]
        · have := lasE_ge t e.T hr
          rw [decide_eq_false (show ¬ lasE e.T t ≤ M by omega), Bool.and_false]
theorem l1In14 (n l m : Int) (r : Bool) (h : inB n l m = r) (w : World) :
    Calls Try.prog 47 #[.int .i64 n, .int .i64 l, .int .i64 m] w fun e w' => e = .returned (.bool r) ∧ w = w' := h ▸ l1In12 n l m w


/-- What the specification asks ahead of the entries. -/
def kaB (k : Kv) : Bool := inB k.T 0 1000000 && (inB k.V 0 7 && (inB k.B 0 (1000000 - (k.ln : Int)) && (inB k.E 0 k.T && ((k.B == 0) == (k.E == 0) && (grB k.ps k.bs && (decide ((k.sn : Int) ≤ 20000) && (!((k.B == 0) && decide ((k.sn : Int) > 0)) && decide ((k.ln : Int) ≤ 120))))))))
/-- A right Keep. -/
def kvB (k : Kv) : Bool := (decide (0 ≤ k.T) && decide (k.T ≤ 1000000)) && ((decide (0 ≤ k.V) && decide (k.V ≤ 7)) && (baB k && (grB k.ps k.bs && loB k)))
theorem beqZ (x : Int) : (x == 0) = decide (x = 0) := by
  by_cases h : x = 0
  · rw [decide_eq_true h]; simpa using h
  · rw [decide_eq_false h]; simpa using h
theorem kv_same (k : Kv) : (kaB k && rngE k.T k.E k.es) = kvB k := by
  rw [Bool.eq_iff_iff]
  unfold kaB kvB loB inB
  constructor
  · intro h
    simp only [Bool.and_eq_true, decide_eq_true_eq, beq_iff_eq, Bool.not_eq_true', Bool.and_eq_false_iff, decide_eq_false_iff_not, beqZ] at h
    obtain ⟨⟨⟨t0, t1⟩, ⟨v0, v1⟩, ⟨b0, b1⟩, ⟨e0, e1⟩, q, g, s, z, l⟩, r⟩ := h
    have q2 : k.B = 0 ↔ k.E = 0 := by
      have := Bool.eq_iff_iff.1 q
      simpa only [decide_eq_true_eq] using this
    rw [rng_same k.T k.es k.E e1, Bool.and_eq_true, decide_eq_true_eq] at r
    have hb : baB k = true := by
      by_cases h0 : k.B = 0
      · rw [baB_0 h0, beqZ, beqZ, decide_eq_true (q2.1 h0), decide_eq_true (by omega)]; rfl
      · rw [baB_1 h0, decide_eq_true (by omega), decide_eq_true (by omega), decide_eq_true (by omega), decide_eq_true e1, decide_eq_true s]; rfl
    rw [hb, g, r.1, decide_eq_true t0, decide_eq_true t1, decide_eq_true v0, decide_eq_true v1, decide_eq_true l, decide_eq_true r.2, decide_eq_true (by omega)]
    rfl
  · intro h
    simp only [Bool.and_eq_true, decide_eq_true_eq] at h
    obtain ⟨⟨t0, t1⟩, ⟨v0, v1⟩, b, g, l, x, r, la⟩ := h
    have hb := baB_b b
    have hh : (k.B = 0 ↔ k.E = 0) ∧ 0 ≤ k.E ∧ k.E ≤ k.T ∧ (k.sn : Int) ≤ 20000 ∧ (k.B = 0 → (k.sn : Int) = 0) := by
      by_cases h0 : k.B = 0
      · rw [baB_0 h0, beqZ, beqZ, Bool.and_eq_true, decide_eq_true_eq, decide_eq_true_eq] at b
        omega
      · rw [baB_1 h0] at b
        simp only [Bool.and_eq_true, decide_eq_true_eq] at b
        omega
    obtain ⟨q, e0, e1, s, z⟩ := hh
    have hq : ((k.B == 0) == (k.E == 0)) = true := by
      rw [beqZ, beqZ, beq_iff_eq, Bool.eq_iff_iff, decide_eq_true_eq, decide_eq_true_eq]; exact q
    have hz : (!((k.B == 0) && decide ((k.sn : Int) > 0))) = true := by
      rw [beqZ]
      by_cases h0 : k.B = 0
      · rw [decide_eq_false (show ¬ (k.sn : Int) > 0 by have := z h0; omega), Bool.and_false]; rfl
      · rw [decide_eq_false h0, Bool.false_and]; rfl
    rw [hq, hz, rng_same k.T k.es k.E e1, r, g, decide_eq_true t0, decide_eq_true t1, decide_eq_true v0, decide_eq_true v1, decide_eq_true l, decide_eq_true la, decide_eq_true e0, decide_eq_true e1, decide_eq_true s, decide_eq_true hb.1, decide_eq_true (show k.B ≤ 1000000 - (k.ln : Int) by omega)]
    rfl
theorem kvB_no {k : Kv} (h : ((decide (0 ≤ k.T) && decide (k.T ≤ 1000000)) && (decide (0 ≤ k.V) && decide (k.V ≤ 7))) = false) : kvB k = false := by
  unfold kvB
  rw [← Bool.and_assoc, h, Bool.false_and]

end Go.Proofs.Ytamaanbnlnpjcaa
