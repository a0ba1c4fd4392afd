/-
  A session takes an answer: the program's takes and answer; the row in which one session is otherwise.
-/
import Derived.Test.YtjenbmiiikeenaaV7Ask
namespace Go.Proofs.Ytjenbmiiikeenaa
open Go.RowKit

/-- Whether a session takes an answer. -/
def tkB (q : Ss) (s : Int) (rp : ByteArray) (u : Int) : Bool := (((askN q.l s == 0) && decide (s ≤ 1000000)) && decide ((rp.size : Int) ≤ 200)) && tmB u
theorem set_same7 {l : List Value} {j : Nat} {v : Value} (h : l[j]? = some v) : l.set j v = l := by
  apply List.ext_getElem?
  intro i
  rw [List.getElem?_set]
  split
  · rename_i e; subst e
    split
    · exact h.symm
    · rename_i hn; rw [List.getElem?_eq_none (by omega)]
  · rfl
theorem sets3 (ls : List Ss) (I : Nat) (q : Ss) (s : Int) (rp : ByteArray) (x : Int) (hq : ls[I]? = some q) : sets (gflat KSs ls) (I * 4 + 1) [.int .i64 s, .string rp, .int .i64 x] = gflat KSs (ls.set I ⟨q.i, s, rp, x⟩) := by
  have hI := (List.getElem?_eq_some_iff.1 hq).1
  have h := gflat_set KSs ls I ⟨q.i, s, rp, x⟩ hI
  have h0 : (gflat KSs ls)[I * 4]? = some (.int .i64 q.i) := gflat_at KSs ls I q hq 0 (by show 0 < 4; omega)
  have h1 : sets ((gflat KSs ls).set (I * 4) (.int .i64 q.i)) (I * 4 + 1) [.int .i64 s, .string rp, .int .i64 x] = gflat KSs (ls.set I ⟨q.i, s, rp, x⟩) := h
  rw [set_same7 h0] at h1
  exact h1
theorem sets2 (ls : List Ss) (I : Nat) (q : Ss) (s : Int) (rp : ByteArray) (hq : ls[I]? = some q) : sets (gflat KSs ls) (I * 4 + 1) [.int .i64 s, .string rp] = gflat KSs (ls.set I ⟨q.i, s, rp, q.u⟩) := by
  have h := sets3 ls I q s rp q.u hq
  have h3 : (gflat KSs ls)[I * 4 + 3]? = some (.int .i64 q.u) := gflat_at KSs ls I q hq 3 (by show 3 < 4; omega)
  have h1 : (((gflat KSs ls).set (I * 4 + 1) (.int .i64 s)).set (I * 4 + 1 + 1) (.string rp)).set (I * 4 + 1 + 1 + 1) (.int .i64 q.u) = gflat KSs (ls.set I ⟨q.i, s, rp, q.u⟩) := h
  rw [set_same7 (by rw [List.getElem?_set_ne (by omega), List.getElem?_set_ne (by omega)]; exact h3)] at h1
  exact h1
theorem own3 {t : TypeId} {w : World} {B g n cap : Nat} {ls : List Ss} (h : OwnG KSs t w B (.slice (some ⟨g, 0, none⟩) n cap) ls) (I : Nat) (q : Ss) (s : Int) (rp : ByteArray) (x : Int) (hq : ls[I]? = some q) :
    OwnG KSs t (((w.setCell ⟨g, I * 4 + 1, none⟩ (.int .i64 s)).setCell ⟨g, I * 4 + 2, none⟩ (.string rp)).setCell ⟨g, I * 4 + 3, none⟩ (.int .i64 x)) B (.slice (some ⟨g, 0, none⟩) n cap) (ls.set I ⟨q.i, s, rp, x⟩) := by
  have hn := h.caps.1
  subst hn
  have := puts_own [.int .i64 s, .string rp, .int .i64 x] w _ (I * 4 + 1) h
  rw [sets3 ls I q s rp x hq] at this
  unfold OwnG
  rw [List.length_set]
  exact this
theorem own2 {t : TypeId} {w : World} {B g n cap : Nat} {ls : List Ss} (h : OwnG KSs t w B (.slice (some ⟨g, 0, none⟩) n cap) ls) (I : Nat) (q : Ss) (s : Int) (rp : ByteArray) (hq : ls[I]? = some q) :
    OwnG KSs t ((w.setCell ⟨g, I * 4 + 1, none⟩ (.int .i64 s)).setCell ⟨g, I * 4 + 2, none⟩ (.string rp)) B (.slice (some ⟨g, 0, none⟩) n cap) (ls.set I ⟨q.i, s, rp, q.u⟩) := by
  have hn := h.caps.1
  subst hn
  have := puts_own [.int .i64 s, .string rp] w _ (I * 4 + 1) h
  rw [sets2 ls I q s rp hq] at this
  unfold OwnG
  rw [List.length_set]
  exact this

set_option maxRecDepth 10000 in
set_option maxHeartbeats 2000000 in
theorem takes_any (p o : Nat) (q : Ss) (s : Int) (rp : ByteArray) (u : Int) (w : World) (h0 : 0 ≤ q.l) (h1 : q.l ≤ 1000000) (c1 : w.cell? ⟨p, o + 1, none⟩ = some (.int .i64 q.l)) (c2 : w.cell? ⟨p, o + 2, none⟩ = some (.string q.t)) :
    Calls Try.prog 27 #[.pointer (some ⟨p, o, none⟩), .int .i64 s, .string rp, .int .i64 u] w fun e w' => e = .returned (.bool (tkB q s rp u)) ∧ Below w.heap.size w w' := by
  have HA := hidP (sesAsk_any p o q s w h0 h1 c1 c2)
  have HT := hidP (timeOk_any u)
  unfold tkB
  clear c1 c2 h0 h1
  generalize askN q.l s = A at *
  generalize askT q s = T at *
  generalize tmB u = M at *
  cases h1 : (A == 0) <;> cases h2 : decide (s ≤ 1000000) <;> cases h3 : decide ((rp.size : Int) ≤ 200)
  all_goals
    go_enter Try.func27, Try.ntmps27
    go_wp2_with fail
    refine HA.out.mono ?_
    rintro e w2 ⟨rfl, hb2⟩
    have HB2 := hidP hb2
    clear hb2
    go_wp2_with fail
    first
    | (go_ret; exact ⟨rfl, HB2.out⟩)
    | (refine (HT.out _).mono ?_; rintro e w3 ⟨rfl, hw3⟩; rw [hw3]; clear hw3 w3; go_wp2_with fail; go_ret; exact ⟨rfl, HB2.out⟩)

set_option maxRecDepth 10000 in
set_option maxHeartbeats 2000000 in
theorem answer_any (g I n cap B : Nat) (ls : List Ss) (q : Ss) (s : Int) (rp : ByteArray) (u : Int) (w : World) (hq : ls[I]? = some q) (hB : OwnG KSs 39 w B (.slice (some ⟨g, 0, none⟩) n cap) ls) :
    Calls Try.prog 28 #[.pointer (some ⟨g, I * 4, none⟩), .int .i64 s, .string rp, .int .i64 u] w fun e w' => e = .returned (.tuple #[]) ∧ OwnG KSs 39 w' B (.slice (some ⟨g, 0, none⟩) n cap) (ls.set I (⟨q.i, s, rp, max q.u u⟩ : Ss)) ∧ w.grownBy w' (some g) := by
  have hI := (List.getElem?_eq_some_iff.1 hq).1
  obtain ⟨q', hgl, hq', c0, c1, c2, c3⟩ := rowSs0 hB I hI
  rw [hq] at hq'
  cases hq'
  obtain ⟨f0, f1, f2, f3⟩ := frzSs hB I
  have HO := hidP (own3 hB I q s rp (max q.u u) hq)
  clear hB hq
  by_cases hu : q.u < u
  · rw [show max q.u u = u by omega] at HO ⊢
    go_enter Try.func28, Try.ntmps28
    go_wp2_with fail
    refine bodyPost_end (v := .tuple #[]) (by simp [results, Try.results28]) rfl ?_
    exact ⟨rfl, HO.out, ((grown_cellG _ g _ _).trans (grown_cellG _ g _ _)).trans (grown_cellG _ g _ _)⟩
  · rw [show max q.u u = q.u by omega] at HO ⊢
    go_enter Try.func28, Try.ntmps28
    go_wp2_with fail
    refine bodyPost_end (v := .tuple #[]) (by simp [results, Try.results28]) rfl ?_
    exact ⟨rfl, HO.out, ((grown_cellG _ g _ _).trans (grown_cellG _ g _ _)).trans (grown_cellG _ g _ _)⟩

end Go.Proofs.Ytjenbmiiikeenaa
