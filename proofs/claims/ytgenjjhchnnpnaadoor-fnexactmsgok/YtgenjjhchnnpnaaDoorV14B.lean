/-
  Both MsgOk answer alike.
-/
import Derived.Test.YtgenjjhchnnpnaaDoorV14P
import Derived.Test.YtgenjjhchnnpnaaDoorV14N
namespace Go.Proofs.YtgenjjhchnnpnaaDoor
open Go.ChangeShapes Go.WideShapes Go.ChangeAt Go.RowKit Go.Joins Go.Deep

/-- The forms, as the package-level variable holds them. -/
def fmC : List Value := [.int .i64 0, .int .i64 0, .int .i64 0, .int .i64 0, .int .i64 0, .bool false, .bool false, .int .i64 1000000, .int .i64 1000000, .int .i64 0, .int .i64 0, .int .i64 0, .bool false, .bool false, .int .i64 0, .int .i64 0, .int .i64 0, .int .i64 0, .int .i64 0, .bool true, .bool false, .int .i64 1000000, .int .i64 1000000, .int .i64 8, .int .i64 1000000, .int .i64 0, .bool false, .bool false, .int .i64 1000000, .int .i64 0, .int .i64 0, .int .i64 0, .int .i64 0, .bool true, .bool false, .int .i64 1000000, .int .i64 1000000, .int .i64 0, .int .i64 0, .int .i64 20000, .bool false, .bool true]
def FmG (w : World) : Prop := ∀ (i : Nat) (v : Value), fmC[i]? = some v → w.cell? ⟨0, i, none⟩ = some v
theorem FmG.later {w w' : World} (h : FmG w) (hb : Below w.heap.size w w') : FmG w' := fun i v hv => (hb.cell (World.block_lt_of_cell? w _ (h i v hv))).trans (h i v hv)
/-- A right message. -/
def mB (m : Mg) : Bool := hB m.K m.F m.T m.M m.I m.L m.C m.en m.dn && (rngE m.M m.L m.es && kB m)
theorem rng_key (M : Int) : ∀ {es fs : List En} (l : Int), es.map En.key = fs.map En.key → rngE M l es = rngE M l fs
  | [], [], _, _ => rfl
  | [], _ :: _, _, h => by simp at h
  | _ :: _, [], _, h => by simp at h
  | e :: t, f :: u, l, h => by
      simp only [List.map_cons, List.cons.injEq] at h
      show ((e.ok && inB e.T l M) && rngE M e.T t) = ((f.ok && inB f.T l M) && rngE M f.T u)
      rw [← key_ok h.1, ← key_T h.1, rng_key M e.T h.2]
theorem mB_same {m k : Mg} (h : MgE m k) : mB k = mB m := by
  unfold mB kB zB
  rw [h.K, h.F, h.T, h.M, h.I, h.L, h.C, h.O, h.en, h.dn, h.gn, h.hn, h.ps, h.bs, rng_key m.M m.L h.es]
theorem MgE.s {m k : Mg} (h : MgE m k) (hs : MgS m) : MgS k := by
  refine ⟨by rw [h.en]; exact hs.he, fun e he => ?_, by rw [h.dn]; exact hs.hd, by rw [h.gn]; exact hs.hg, by rw [h.hn]; exact hs.hh⟩
  have h1 : e.key ∈ k.es.map En.key := List.mem_map.2 ⟨e, he, rfl⟩
  rw [h.es] at h1
  obtain ⟨f, hf, hk⟩ := List.mem_map.1 h1
  have : e.n = f.n := congrArg (fun x => x.2.2.1) hk.symm
  rw [this]
  exact hs.hz f hf

theorem sMsg_any (m : Mg) (w : World) (hr : MgR w m) (hs : MgS m) (hf : ∀ e ∈ m.es, EnF e) :
    Calls Tryd.prog 5 #[m.v] w fun e w' => e = .returned (.bool (mB m)) ∧ Below w.heap.size w w' := by
  unfold mB
  cases h : hB m.K m.F m.T m.M m.I m.L m.C m.en m.dn
  · exact sMsg_no m w h
  · exact sMsg_yes m w h hr hs hf

theorem kB_1 (m : Mg) (h : m.K = 1) : kB m = (zB true false false false false m) := by unfold kB; rw [h]; rfl
theorem form_1 (m : Mg) (h : m.K = 1) (hA : aB m.K m.F m.T m.M = true) : fB m 1000000 1000000 0 0 0 false false = mB m := by
  unfold mB
  rw [kB_1 m h]
  have hA2 := hA
  unfold aB inB at hA2
  simp only [Bool.and_eq_true, decide_eq_true_eq] at hA2
  obtain ⟨⟨a0, a1⟩, ⟨a2, a3⟩, ⟨a4, a5⟩, ⟨a6, a7⟩⟩ := hA2
  have hH : hB m.K m.F m.T m.M m.I m.L m.C m.en m.dn = (inB m.I 0 1000000 && (inB m.L 0 m.M && (inB m.C 0 1000000 && (decide ((m.en : Int) ≤ 8) && decide ((m.dn : Int) ≤ 20000))))) := by
    unfold aB at hA
    rw [Bool.and_eq_true, Bool.and_eq_true, Bool.and_eq_true] at hA
    unfold hB
    rw [hA.1, hA.2.1, hA.2.2.1, hA.2.2.2]
    rfl
  rw [hH]
  unfold fB gfB zB
  have hmin : min (1000000 : Int) m.M = m.M := by omega
  rw [hmin]
  by_cases hL : m.L ≤ m.M
  · rw [rng_same m.M m.es m.L hL]
    generalize (risE m.L m.es && decide (lasE m.L m.es ≤ m.M)) = r
    generalize grB m.ps m.bs = g
    generalize m.O = O
    clear hA hH hmin
    cases r <;> cases g <;> cases O <;> (rw [Bool.eq_iff_iff]; unfold inB; simp <;> omega)
  · have e1 : inB m.L 0 m.M = false := by unfold inB; simp; omega
    skip
    rw [e1]
    simp

theorem kB_2 (m : Mg) (h : m.K = 2) : kB m = (zB false false false true false m) := by unfold kB; rw [h]; rfl
theorem form_2 (m : Mg) (h : m.K = 2) (hA : aB m.K m.F m.T m.M = true) : fB m 0 0 0 0 0 true false = mB m := by
  unfold mB
  rw [kB_2 m h]
  have hA2 := hA
  unfold aB inB at hA2
  simp only [Bool.and_eq_true, decide_eq_true_eq] at hA2
  obtain ⟨⟨a0, a1⟩, ⟨a2, a3⟩, ⟨a4, a5⟩, ⟨a6, a7⟩⟩ := hA2
  have hH : hB m.K m.F m.T m.M m.I m.L m.C m.en m.dn = (inB m.I 0 1000000 && (inB m.L 0 m.M && (inB m.C 0 1000000 && (decide ((m.en : Int) ≤ 8) && decide ((m.dn : Int) ≤ 20000))))) := by
    unfold aB at hA
    rw [Bool.and_eq_true, Bool.and_eq_true, Bool.and_eq_true] at hA
    unfold hB
    rw [hA.1, hA.2.1, hA.2.2.1, hA.2.2.2]
    rfl
  rw [hH]
  unfold fB gfB zB
  have hmin : min (0 : Int) m.M = 0 := by omega
  rw [hmin]
  by_cases hL : m.L ≤ m.M
  · rw [rng_same m.M m.es m.L hL]
    generalize (risE m.L m.es && decide (lasE m.L m.es ≤ m.M)) = r
    generalize grB m.ps m.bs = g
    generalize m.O = O
    clear hA hH hmin
    cases r <;> cases g <;> cases O <;> (rw [Bool.eq_iff_iff]; unfold inB; simp <;> omega)
  · have e1 : inB m.L 0 0 = false := by unfold inB; simp; omega
    have e2 : inB m.L 0 m.M = false := by unfold inB; simp; omega
    rw [e1, e2]
    simp

theorem kB_3 (m : Mg) (h : m.K = 3) : kB m = (zB true false true false false m) := by unfold kB; rw [h]; rfl
theorem form_3 (m : Mg) (h : m.K = 3) (hA : aB m.K m.F m.T m.M = true) : fB m 1000000 1000000 8 1000000 0 false false = mB m := by
  unfold mB
  rw [kB_3 m h]
  have hA2 := hA
  unfold aB inB at hA2
  simp only [Bool.and_eq_true, decide_eq_true_eq] at hA2
  obtain ⟨⟨a0, a1⟩, ⟨a2, a3⟩, ⟨a4, a5⟩, ⟨a6, a7⟩⟩ := hA2
  have hH : hB m.K m.F m.T m.M m.I m.L m.C m.en m.dn = (inB m.I 0 1000000 && (inB m.L 0 m.M && (inB m.C 0 1000000 && (decide ((m.en : Int) ≤ 8) && decide ((m.dn : Int) ≤ 20000))))) := by
    unfold aB at hA
    rw [Bool.and_eq_true, Bool.and_eq_true, Bool.and_eq_true] at hA
    unfold hB
    rw [hA.1, hA.2.1, hA.2.2.1, hA.2.2.2]
    rfl
  rw [hH]
  unfold fB gfB zB
  have hmin : min (1000000 : Int) m.M = m.M := by omega
  rw [hmin]
  by_cases hL : m.L ≤ m.M
  · rw [rng_same m.M m.es m.L hL]
    generalize (risE m.L m.es && decide (lasE m.L m.es ≤ m.M)) = r
    generalize grB m.ps m.bs = g
    generalize m.O = O
    clear hA hH hmin
    cases r <;> cases g <;> cases O <;> (rw [Bool.eq_iff_iff]; unfold inB; simp <;> omega)
  · have e1 : inB m.L 0 m.M = false := by unfold inB; simp; omega
    skip
    rw [e1]
    simp

theorem kB_4 (m : Mg) (h : m.K = 4) : kB m = (zB false true false true false m) := by unfold kB; rw [h]; rfl
theorem form_4 (m : Mg) (h : m.K = 4) (hA : aB m.K m.F m.T m.M = true) : fB m 1000000 0 0 0 0 true false = mB m := by
  unfold mB
  rw [kB_4 m h]
  have hA2 := hA
  unfold aB inB at hA2
  simp only [Bool.and_eq_true, decide_eq_true_eq] at hA2
  obtain ⟨⟨a0, a1⟩, ⟨a2, a3⟩, ⟨a4, a5⟩, ⟨a6, a7⟩⟩ := hA2
  have hH : hB m.K m.F m.T m.M m.I m.L m.C m.en m.dn = (inB m.I 0 1000000 && (inB m.L 0 m.M && (inB m.C 0 1000000 && (decide ((m.en : Int) ≤ 8) && decide ((m.dn : Int) ≤ 20000))))) := by
    unfold aB at hA
    rw [Bool.and_eq_true, Bool.and_eq_true, Bool.and_eq_true] at hA
    unfold hB
    rw [hA.1, hA.2.1, hA.2.2.1, hA.2.2.2]
    rfl
  rw [hH]
  unfold fB gfB zB
  have hmin : min (0 : Int) m.M = 0 := by omega
  rw [hmin]
  by_cases hL : m.L ≤ m.M
  · rw [rng_same m.M m.es m.L hL]
    generalize (risE m.L m.es && decide (lasE m.L m.es ≤ m.M)) = r
    generalize grB m.ps m.bs = g
    generalize m.O = O
    clear hA hH hmin
    cases r <;> cases g <;> cases O <;> (rw [Bool.eq_iff_iff]; unfold inB; simp <;> omega)
  · have e1 : inB m.L 0 0 = false := by unfold inB; simp; omega
    have e2 : inB m.L 0 m.M = false := by unfold inB; simp; omega
    rw [e1, e2]
    simp

theorem kB_5 (m : Mg) (h : m.K = 5) : kB m = (zB true false false false true m && grB m.ps m.bs) := by unfold kB; rw [h]; rfl
theorem form_5 (m : Mg) (h : m.K = 5) (hA : aB m.K m.F m.T m.M = true) : fB m 1000000 1000000 0 0 20000 false true = mB m := by
  unfold mB
  rw [kB_5 m h]
  have hA2 := hA
  unfold aB inB at hA2
  simp only [Bool.and_eq_true, decide_eq_true_eq] at hA2
  obtain ⟨⟨a0, a1⟩, ⟨a2, a3⟩, ⟨a4, a5⟩, ⟨a6, a7⟩⟩ := hA2
  have hH : hB m.K m.F m.T m.M m.I m.L m.C m.en m.dn = (inB m.I 0 1000000 && (inB m.L 0 m.M && (inB m.C 0 1000000 && (decide ((m.en : Int) ≤ 8) && decide ((m.dn : Int) ≤ 20000))))) := by
    unfold aB at hA
    rw [Bool.and_eq_true, Bool.and_eq_true, Bool.and_eq_true] at hA
    unfold hB
    rw [hA.1, hA.2.1, hA.2.2.1, hA.2.2.2]
    rfl
  rw [hH]
  unfold fB gfB zB
  have hmin : min (1000000 : Int) m.M = m.M := by omega
  rw [hmin]
  by_cases hL : m.L ≤ m.M
  · rw [rng_same m.M m.es m.L hL]
    generalize (risE m.L m.es && decide (lasE m.L m.es ≤ m.M)) = r
    generalize grB m.ps m.bs = g
    generalize m.O = O
    clear hA hH hmin
    cases r <;> cases g <;> cases O <;> (rw [Bool.eq_iff_iff]; unfold inB; simp <;> omega)
  · have e1 : inB m.L 0 m.M = false := by unfold inB; simp; omega
    skip
    rw [e1]
    simp

theorem iMsg_any (m : Mg) (w : World) (hr : MgR w m) (hs : MgS m) (hG : FmG w) :
    Calls Tryd.prog 7 #[m.v] w fun e w' => e = .returned (.bool (mB m)) ∧ Below w.heap.size w w' := by
  cases hA : aB m.K m.F m.T m.M
  · have : mB m = false := by
      unfold mB
      have hH : hB m.K m.F m.T m.M m.I m.L m.C m.en m.dn = false := by
        unfold aB at hA
        unfold hB
        cases h1 : inB m.K 1 5
        · rfl
        · cases h2 : inB m.F 1 7
          · rfl
          · cases h3 : inB m.T 1 7
            · rfl
            · rw [h1, h2, h3] at hA
              have h4 : inB m.M 1 1000000 = false := hA
              rw [h4]
              rfl
      rw [hH]
      rfl
    rw [this]
    exact iMsg_no m w hA
  · have hk : m.K = 1 ∨ m.K = 2 ∨ m.K = 3 ∨ m.K = 4 ∨ m.K = 5 := by
      have hA2 := hA
      unfold aB inB at hA2
      simp only [Bool.and_eq_true, decide_eq_true_eq] at hA2
      omega
    rcases hk with hk | hk | hk | hk | hk
    · rw [← form_1 m hk hA]
      exact iMsg_form m 1 1000000 1000000 0 0 0 false false w hk hA hr hs (hG 7 _ rfl) (hG 8 _ rfl) (hG 9 _ rfl) (hG 10 _ rfl) (hG 11 _ rfl) (hG 12 _ rfl) (hG 13 _ rfl)
    · rw [← form_2 m hk hA]
      exact iMsg_form m 2 0 0 0 0 0 true false w hk hA hr hs (hG 14 _ rfl) (hG 15 _ rfl) (hG 16 _ rfl) (hG 17 _ rfl) (hG 18 _ rfl) (hG 19 _ rfl) (hG 20 _ rfl)
    · rw [← form_3 m hk hA]
      exact iMsg_form m 3 1000000 1000000 8 1000000 0 false false w hk hA hr hs (hG 21 _ rfl) (hG 22 _ rfl) (hG 23 _ rfl) (hG 24 _ rfl) (hG 25 _ rfl) (hG 26 _ rfl) (hG 27 _ rfl)
    · rw [← form_4 m hk hA]
      exact iMsg_form m 4 1000000 0 0 0 0 true false w hk hA hr hs (hG 28 _ rfl) (hG 29 _ rfl) (hG 30 _ rfl) (hG 31 _ rfl) (hG 32 _ rfl) (hG 33 _ rfl) (hG 34 _ rfl)
    · rw [← form_5 m hk hA]
      exact iMsg_form m 5 1000000 1000000 0 0 20000 false true w hk hA hr hs (hG 35 _ rfl) (hG 36 _ rfl) (hG 37 _ rfl) (hG 38 _ rfl) (hG 39 _ rfl) (hG 40 _ rfl) (hG 41 _ rfl)

end Go.Proofs.YtgenjjhchnnpnaaDoor
