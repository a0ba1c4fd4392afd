/-
  The specification's MsgOk of a message whose entries' bytes begin their blocks.
-/
import Derived.Test.YtgenjjhchnnpnaaDoorV14Z
import Derived.Test.YtgenjjhchnnpnaaDoorV14I
namespace Go.Proofs.YtgenjjhchnnpnaaDoor
open Go.ChangeShapes Go.WideShapes Go.ChangeAt Go.RowKit Go.Joins Go.Deep

theorem sGetG_gB (n : Nat) (zs : List Int) (hn : n = zs.length) (ho : Oct zs) :
    ∃ NP NB : Nat, ∀ (g : Nat) (W : World), RowG KBy W (some ⟨g, 0, none⟩) zs → Calls Tryd.prog 28 #[.slice (some ⟨g, 0, none⟩) n n] W fun e w' => ∃ a c b d, e = .returned (.tuple #[.agg #[.slice a NP c, .slice b NB d], .bool (gB zs)]) ∧ Below W.heap.size W w' := by
  by_cases h2 : n = 2
  · subst h2
    match zs, hn with
    | [u, v], _ =>
      have hu := ho u (by simp)
      have hv := ho v (by simp)
      obtain ⟨bx, rfl⟩ : ∃ bx : Nat, u = (bx : Int) := ⟨u.toNat, by omega⟩
      obtain ⟨bq, rfl⟩ : ∃ bq : Nat, v = (bq : Int) := ⟨v.toNat, by omega⟩
      have hx : bx < 256 := by omega
      have hy : bq < 256 := by omega
      have hs := got_s bx bq hx hy
      have eg : gB [(bx : Int), (bq : Int)] = gotB bx bq := by unfold gB; simp
      rw [eg]
      cases hg : gotB bx bq
      · rw [hg] at hs
        refine ⟨0, 0, fun g W e1 => ?_⟩
        cases hr : grB (lsB 7 bx 1) (lsB 7 bq 1)
        · exact (sGg_nok g bx bq hx hy W e1 hr).mono fun e w' ⟨a, c, b, d, he, _, _, _, hb⟩ => ⟨a, c, b, d, he, hb⟩
        · rw [hr, Bool.true_and] at hs
          exact (sGg_dif g bx bq hx hy W e1 hr hs).mono fun e w' ⟨a, c, b, d, he, _, _, _, hb⟩ => ⟨a, c, b, d, he, hb⟩
      · rw [hg, Bool.and_eq_true] at hs
        exact ⟨(lsB 7 bx 1).length, (lsB 7 bq 1).length, fun g W e1 => (sGg_good g bx bq hx hy W e1 hs.1 hs.2).mono fun e w' ⟨a, c, b, d, he, _, _, _, hb⟩ => ⟨a, c, b, d, he, hb⟩⟩
  · have eg : gB zs = false := by
      match zs, hn with
      | [], _ => rfl
      | [_], _ => rfl
      | [_, _], hn => exact absurd hn h2
      | _ :: _ :: _ :: _, _ => rfl
    rw [eg]
    exact ⟨0, 0, fun g W _ => (sGg_len _ n n h2 W).mono fun e w' ⟨a, c, b, d, he, _, _, _, hb⟩ => ⟨a, c, b, d, he, hb⟩⟩

theorem sEntry_any (e : En) (w : World) (hd : DatR w e) (hf : EnF e) :
    Calls Tryd.prog 13 #[.agg #[.int .i64 e.T, .int .i64 e.K, .slice e.a e.n e.c]] w fun x w' => x = .returned (.bool e.ok) ∧ Below w.heap.size w w' := by
  obtain ⟨⟨g, ha⟩, hc⟩ := hf
  obtain ⟨NP, NB, h⟩ := sGetG_gB e.n e.zs hd.1 hd.2.1
  have hr := hd.2.2
  rw [ha] at hr ⊢
  rw [hc]
  exact sEntryOk_any _ e.n e.n e.T e.K (gB e.zs) NP NB w (fun _ W hb => h g W (hr.later hb))

/-- Entries right, each term from the one ahead to the latest. -/
def rngE (M : Int) : Int → List En → Bool
  | _, [] => true
  | l, e :: t => (e.ok && inB e.T l M) && rngE M e.T t
theorem lasE_ge : ∀ (es : List En) (l : Int), risE l es = true → l ≤ lasE l es
  | [], l, _ => Int.le_refl _
  | e :: t, l, h => by
      rw [risE_split, Bool.and_eq_true, Bool.and_eq_true, decide_eq_true_eq] at h
      rw [lasE_cons]
      exact Int.le_trans h.1.2 (lasE_ge t e.T h.2)
theorem rng_same (M : Int) : ∀ (es : List En) (l : Int), l ≤ M → rngE M l es = (risE l es && decide (lasE l es ≤ M))
  | [], l, h => by show true = (true && decide (l ≤ M)); rw [decide_eq_true h]; rfl
  | e :: t, l, h => by
      rw [risE_split, lasE_cons]
      show ((e.ok && inB e.T l M) && rngE M e.T t) = _
      unfold inB
      by_cases hM : e.T ≤ M
      · rw [rng_same M t e.T hM, decide_eq_true hM, Bool.and_true]
        simp only [Bool.and_assoc]
      · rw [decide_eq_false hM, Bool.and_false, Bool.and_false, Bool.false_and]
        cases hr : risE e.T t
        · rw [Bool.and_false, Bool.false_and]
        · have := lasE_ge t e.T hr
          rw [decide_eq_false (show ¬ lasE e.T t ≤ M by omega), Bool.and_false]
theorem l1In14 (n l m : Int) (r : Bool) (h : inB n l m = r) (w : World) :
    Calls Tryd.prog 12 #[.int .i64 n, .int .i64 l, .int .i64 m] w fun e w' => e = .returned (.bool r) ∧ w = w' := h ▸ l1In12 n l m w

/-- What stands ahead of the entries. -/
def hB (K F T M I L C : Int) (en dn : Nat) : Bool := inB K 1 5 && (inB F 1 7 && (inB T 1 7 && (inB M 1 1000000 && (inB I 0 1000000 && (inB L 0 M && (inB C 0 1000000 && (decide ((en : Int) ≤ 8) && decide ((dn : Int) ≤ 20000))))))))


end Go.Proofs.YtgenjjhchnnpnaaDoor
