/-
  What both GroupOf answer of a Keep that lies elsewhere.
-/
import Derived.Test.YtamaanbnlnpjcaaV15H
import Derived.Test.YtamaanbnlnpjcaaV15C
import Derived.Test.YtamaanbnlnpjcaaV15M
namespace Go.Proofs.Ytamaanbnlnpjcaa
open Go.ChangeShapes Go.WideShapes Go.ChangeAt Go.RowKit Go.Joins Go.Deep

theorem fnd_key : ∀ (n : Nat) {es fs : List En}, es.map En.key = fs.map En.key → fnd (bkF es n) = fnd (bkF fs n)
  | 0, _, _, _ => rfl
  | i + 1, es, fs, h => by
    have h1 := fnd_key i h
    have h2 := congrArg (fun l => l[i]?) h
    simp only [List.getElem?_map] at h2
    cases he : es[i]? with
    | none =>
      cases hf : fs[i]? with
      | none =>
        have e1 : bkF es (i + 1) = bkF es i := by show (match es[i]? with | some e => (i, e) :: bkF es i | none => bkF es i) = _; rw [he]
        have e2 : bkF fs (i + 1) = bkF fs i := by show (match fs[i]? with | some e => (i, e) :: bkF fs i | none => bkF fs i) = _; rw [hf]
        rw [e1, e2, h1]
      | some f => rw [he, hf] at h2; cases h2
    | some e =>
      cases hf : fs[i]? with
      | none => rw [he, hf] at h2; cases h2
      | some f =>
        rw [he, hf] at h2
        have h3 : e.key = f.key := by simpa using h2
        unfold En.key at h3
        simp only [Prod.mk.injEq] at h3
        rw [bkF_next he, bkF_next hf]
        by_cases hK : e.K = 3
        · have e1 : fnd ((i, e) :: bkF es i) = some e.zs := fnd_hit (pre := []) (x := (i, e)) (fun y hy => by cases hy) hK
          have e2 : fnd ((i, f) :: bkF fs i) = some f.zs := fnd_hit (pre := []) (x := (i, f)) (fun y hy => by cases hy) (by show f.K = 3; rw [← h3.2.1]; exact hK)
          rw [e1, e2, h3.2.2.2]
        · rw [fnd_miss (x := (i, e)) hK, fnd_miss (x := (i, f)) (by show f.K ≠ 3; rw [← h3.2.1]; exact hK), h1]
theorem gr_key {m k : Kv} (h : KvE m k) : grA k = grA m := by
  have e1 : fnd (bkF k.es k.ln) = fnd (bkF m.es m.ln) := by rw [h.ln]; exact fnd_key _ h.es
  have e : grOf k = grOf m := by unfold grOf; rw [e1, h.ps, h.bs]
  unfold grA
  rw [kv_key h, e]
theorem gr_len {k : Kv} (h1 : k.ps.length ≤ 1048576) (h2 : k.bs.length ≤ 1048576) : (grA k).1.length ≤ 1048576 ∧ (grA k).2.length ≤ 1048576 := by
  unfold grA
  by_cases h : kvB k = true
  · rw [if_pos h]
    unfold grOf
    cases fnd (bkF k.es k.ln) with
    | none => exact ⟨h1, h2⟩
    | some zs =>
      have a1 := ls_len8 (zs.headD 0).toNat
      have a2 := ls_len8 (zs.tail.headD 0).toNat
      exact ⟨by show (lsB 7 _ 1).length ≤ _; omega, by show (lsB 7 _ 1).length ≤ _; omega⟩
  · rw [if_neg h]
    exact ⟨Nat.zero_le _, Nat.zero_le _⟩
/-- A group of known rows. -/
def GrN (PS BS : List Int) (NP NB : Nat) (W w' : World) (e : Ending) : Prop := ∃ a c b d, e = .returned (.agg #[.slice a NP c, .slice b NB d]) ∧ OwnG KI 3 w' W.heap.size (.slice a NP c) PS ∧ OwnG KI 3 w' W.heap.size (.slice b NB d) BS ∧ (∀ q, (Value.slice a NP c).ownBlock = some q → (Value.slice b NB d).ownBlock ≠ some q) ∧ Below W.heap.size W w'
theorem GrE.n {PS BS : List Int} {NP NB : Nat} {W w' : World} {e : Ending} (h : GrE (PS, BS) W w' e ∧ Below W.heap.size W w') (h1 : NP = PS.length) (h2 : NB = BS.length) : GrN PS BS NP NB W w' e := by
  subst h1 h2
  obtain ⟨⟨a, c, b, d, he, o1, o2, sp⟩, hb⟩ := h
  exact ⟨a, c, b, d, he, o1, o2, sp, hb⟩
theorem spec_gr {m q : Kv} {ss : List Int} {W : World} {D : Nat} {PS BS : List Int} {NP NB : Nat} (hk : KvE m q) (hs : KvS m) (hq : KvO W D q ss) (hP : grA m = (PS, BS)) (h1 : NP = PS.length) (h2 : NB = BS.length) :
    Calls Try.prog 22 #[q.v] W fun e w' => GrN PS BS NP NB W w' e := by
  have h := sGroupOf_any q W ⟨(hk.s hs).hg, (hk.s hs).hh, (hk.s hs).hl⟩ hq.f.r (fun e he => (hq.oe e he).2) hq.og.caps.2.2.2 hq.oh.caps.2.2.2
  rw [gr_key hk, hP] at h
  exact h.mono fun e w' h9 => GrE.n h9 h1 h2
theorem impl_gr {m q : Kv} {ss : List Int} {W : World} {D : Nat} {PS BS : List Int} {NP NB : Nat} (hk : KvE m q) (hs : KvS m) (hq : KvO W D q ss) (hP : grA m = (PS, BS)) (h1 : NP = PS.length) (h2 : NB = BS.length) :
    Calls Try.prog 15 #[q.v] W fun e w' => GrN PS BS NP NB W w' e := by
  have h := iGroupOf_all q W ⟨(hk.s hs).hg, (hk.s hs).hh⟩ hq.f.r (fun e he p o ha o' hl => by
    have hsp := sep8 (hq.oe e he).1.2.2 hq.ol (by decide)
    have ho : o = 0 := by
      obtain ⟨g, hg⟩ := (hq.oe e he).2.1
      rw [ha] at hg
      simp only [Option.some.injEq, Addr.mk.injEq, and_true] at hg
      exact hg.2
    have ho' : o' = 0 := by
      rcases hq.ol.2 with ⟨hv, _⟩ | ⟨g, c, _, hv, _⟩
      · simp only [Value.slice.injEq] at hv
        rw [hv.1] at hl; cases hl
      · simp only [Value.slice.injEq] at hv
        rw [hv.1] at hl
        simp only [Option.some.injEq, Addr.mk.injEq, and_true] at hl
        exact hl.2.symm
    subst ho ho'
    exact hsp p (by rw [ha]; rfl) (by rw [hl]; rfl))
  rw [gr_key hk, hP] at h
  exact h.mono fun e w' h9 => GrE.n h9 h1 h2

end Go.Proofs.Ytamaanbnlnpjcaa
