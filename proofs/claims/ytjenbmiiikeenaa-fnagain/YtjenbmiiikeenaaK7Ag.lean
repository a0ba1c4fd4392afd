/-
  What follows of an answer, in plain terms.
-/
import Derived.Test.YtjenbmiiikeenaaV7IAn
import Derived.Test.YtjenbmiiikeenaaV7SAn
import Derived.Test.YtjenbmiiikeenaaV7ICl
namespace Go.Proofs.Ytjenbmiiikeenaa
open Go.RowKit

theorem sesF_set {N : Int} {q q' : Ss} (hi : q'.i = q.i) (hk : okSs q' = true) : ∀ (ls : List Ss) (p : Int) (I : Nat), sesF N p ls = true → ls[I]? = some q → sesF N p (ls.set I q') = true
  | [], p, I, _, h => by simp at h
  | x :: t, p, 0, h, hq => by
    simp at hq
    subst hq
    simp only [sesF, Bool.and_eq_true, decide_eq_true_eq] at h
    simp only [List.set_cons_zero, sesF, Bool.and_eq_true, decide_eq_true_eq, hi]
    exact ⟨⟨h.1.1, hk⟩, h.2⟩
  | x :: t, p, I + 1, h, hq => by
    rw [List.getElem?_cons_succ] at hq
    simp only [sesF, Bool.and_eq_true, decide_eq_true_eq] at h
    simp only [List.set_cons_succ, sesF, Bool.and_eq_true, decide_eq_true_eq]
    exact ⟨h.1, sesF_set hi hk t x.i I h.2 hq⟩
theorem tk_parts {q : Ss} {s : Int} {rp : ByteArray} {u : Int} (h : tkB q s rp u = true) : s = q.l + 1 ∧ s ≤ 1000000 ∧ (rp.size : Int) ≤ 200 ∧ 0 ≤ u ∧ u ≤ 1000000000 := by
  unfold tkB tmB at h
  simp only [Bool.and_eq_true, decide_eq_true_eq, beq_iff_eq] at h
  obtain ⟨⟨⟨h1, h2⟩, h3⟩, h4, h5⟩ := h
  refine ⟨?_, h2, h3, h4, h5⟩
  unfold askN at h1
  by_cases h6 : s = q.l + 1
  · exact h6
  · rw [if_neg h6] at h1
    split at h1
    · cases h1
    · split at h1 <;> cases h1
theorem an_ok {q : Ss} {s : Int} {rp : ByteArray} {u : Int} (hq : okSs q = true) (h : tkB q s rp u = true) : okSs (⟨q.i, s, rp, max q.u u⟩ : Ss) = true := by
  obtain ⟨h1, h2, h3, h4, h5⟩ := tk_parts h
  obtain ⟨g1, g2, g3, g4, g5⟩ := ok_parts hq
  unfold okSs tmB
  simp only [Bool.and_eq_true, Bool.or_eq_true, decide_eq_true_eq]
  exact ⟨⟨⟨by omega, by omega⟩, h3, Or.inl (by omega)⟩, by omega, by omega⟩
theorem dkB_set {N : Int} {ls : List Ss} {I : Nat} {q : Ss} {s : Int} {rp : ByteArray} {u : Int} (hr : dkB ls N = true) (hq : ls[I]? = some q) (h : tkB q s rp u = true) : dkB (ls.set I (⟨q.i, s, rp, max q.u u⟩ : Ss)) N = true := by
  obtain ⟨h1, h2, h3, h4⟩ := dk_next hr
  have hk := (sesF_mem h4 q (List.mem_of_getElem? hq)).1
  unfold dkB
  rw [List.length_set, sesF_set (q := q) (q' := (⟨q.i, s, rp, max q.u u⟩ : Ss)) rfl (an_ok hk h) ls 0 I h4 hq]
  simp only [Bool.and_eq_true, decide_eq_true_eq, and_true]
  exact ⟨h1, h2, h3⟩
theorem find_set {ls : List Ss} {I : Nat} {id : Int} {q q' : Ss} (hf : findS id ls = some I) (hq : ls[I]? = some q) (hi : q'.i = q.i) : findS id (ls.set I q') = some I ∧ (ls.set I q')[I]? = some q' := by
  obtain ⟨q0, h1, h2, h3, h4⟩ := findS_at hf
  rw [hq] at h1
  cases h1
  have h5 : (ls.set I q')[I]? = some q' := by rw [List.getElem?_set_self h3]
  refine ⟨findS_some h5 (hi.trans h2) fun j r hj hr => ?_, h5⟩
  rw [List.getElem?_set_ne (by omega)] at hr
  exact h4 j r hj hr
theorem find_big {N : Int} {L : List Ss} (h : dkB L N = true) : findS 1000000 L = none := by
  obtain ⟨_, _, h3, h4⟩ := dk_next h
  exact findS_none fun j r hr he => by have := (sesF_mem h4 r (List.mem_of_getElem? hr)).2.1; omega
theorem find_erased {N : Int} {L : List Ss} {I : Nat} {id : Int} (h : dkB L N = true) (hf : findS id L = some I) : findS id (L.eraseIdx I) = none := by
  obtain ⟨_, _, _, h4⟩ := dk_next h
  obtain ⟨q, hq, he, _, hlow⟩ := findS_at hf
  refine findS_none fun j r hr hi => ?_
  rw [List.getElem?_eraseIdx] at hr
  split at hr
  · exact hlow j r (by omega) hr hi
  · have := ses_one h4 I (j + 1) q r (by omega) hq hr
    omega
theorem ask_nums {s : Int} (h : 0 < s) : askN s s = 1 ∧ askN s (s - 1) = 2 ∧ askN s (s + 1) = 0 ∧ askN s (s + 2) = 3 := by
  unfold askN
  refine ⟨?_, ?_, ?_, ?_⟩
  · rw [if_neg (by omega), if_pos ⟨rfl, h⟩]
  · rw [if_neg (by omega), if_neg (by omega), if_pos (by omega)]
  · rw [if_pos rfl]
  · rw [if_neg (by omega), if_neg (by omega), if_neg (by omega)]
theorem ask_erased {n : Nat} {N : Int} {L : List Ss} {I : Nat} {id : Int} (hn : n = (L.eraseIdx I).length) (hl : n ≤ 1048576) (h : dkB L N = true) (hf : findS id L = some I) (s : Int) (a : Option Addr) (c : Nat) (w : World) (e1 : RowG KSs w a (L.eraseIdx I)) :
    Calls Try.prog 11 #[.agg #[.slice a n c, .int .i64 N], .int .i64 id, .int .i64 s] w fun e w' => e = .returned (.tuple #[.int .i64 4, .string ⟨#[]⟩]) ∧ Below w.heap.size w w' := by
  cases hr : dkB (L.eraseIdx I) N
  · exact iAsk_form a n c N _ w hn e1 hl id s hr
  · exact iAsk_none a n c N _ w hn e1 hl id s hr (find_erased h hf)
/-- Either both refuse, or the session takes it. -/
theorem an_split (n : Nat) (N : Int) (ls : List Ss) (hn : n = ls.length) (hl : n ≤ 1048576) (id s : Int) (rp : ByteArray) (u : Int) :
    ((∀ (a : Option Addr) (c : Nat) (w : World), RowG KSs w a ls → Calls Try.prog 7 #[.agg #[.slice a n c, .int .i64 N], .int .i64 id, .int .i64 s, .string rp, .int .i64 u] w fun e w' => ∃ a' c', e = .returned (.tuple #[.agg #[.slice a' n c', .int .i64 N], .bool false]) ∧ Below w.heap.size w w') ∧
     (∀ (a : Option Addr) (c : Nat) (w : World), RowG KSs w a ls → (a = none → c = 0) → Calls Try.prog 8 #[.agg #[.slice a n c, .int .i64 N], .int .i64 id, .int .i64 s, .string rp, .int .i64 u] w fun e w' => ∃ a' c', e = .returned (.tuple #[.agg #[.slice a' n c', .int .i64 N], .bool false]) ∧ Below w.heap.size w w')) ∨
    (∃ I q, dkB ls N = true ∧ findS id ls = some I ∧ ls[I]? = some q ∧ tkB q s rp u = true) := by
  cases hr : dkB ls N
  · exact Or.inl ⟨fun a c w e1 => (iAn_form a n c N ls w hn e1 hl id s rp u hr).mono fun e w' ⟨a', c', h1, _, h3⟩ => ⟨a', c', h1, h3⟩, fun a c w e1 hc => (sAn_no a n c N ls w hn e1 hc hl id s rp u 4 ⟨#[]⟩ (fun a c w e => sAsk_form a n c N ls w hn e hl id s hr) rfl).mono fun e w' ⟨a', c', h1, _, h3⟩ => ⟨a', c', h1, h3⟩⟩
  · cases hf : findS id ls with
    | none => exact Or.inl ⟨fun a c w e1 => (iAn_none a n c N ls w hn e1 hl id s rp u hr hf).mono fun e w' ⟨a', c', h1, _, h3⟩ => ⟨a', c', h1, h3⟩, fun a c w e1 hc => (sAn_no a n c N ls w hn e1 hc hl id s rp u 4 ⟨#[]⟩ (fun a c w e => sAsk_none a n c N ls w hn e hl id s hr hf) rfl).mono fun e w' ⟨a', c', h1, _, h3⟩ => ⟨a', c', h1, h3⟩⟩
    | some I =>
      obtain ⟨q, hq, _⟩ := findS_at hf
      cases htk : tkB q s rp u
      · exact Or.inl ⟨fun a c w e1 => (iAn_no a n c N ls w hn e1 hl id s rp u hr I hf q hq htk).mono fun e w' ⟨a', c', h1, _, h3⟩ => ⟨a', c', h1, h3⟩, fun a c w e1 hc => (sAn_no a n c N ls w hn e1 hc hl id s rp u (askN q.l s) (askT q s) (fun a c w e => sAsk_yes a n c N ls w hn e hl id s hr I hf q hq) htk).mono fun e w' ⟨a', c', h1, _, h3⟩ => ⟨a', c', h1, h3⟩⟩
      · exact Or.inr ⟨I, q, rfl, rfl, hq, htk⟩

end Go.Proofs.Ytjenbmiiikeenaa
