/-
  Both LastEntry and both TermAt of any Keep.
-/
import Derived.Test.YtamaanbnlnpjcaaV15A
import Derived.Test.YtamaanbnlnpjcaaV15K
import Derived.Test.YtamaanbnlnpjcaaV15I
namespace Go.Proofs.Ytamaanbnlnpjcaa
open Go.ChangeShapes Go.WideShapes Go.ChangeAt Go.RowKit Go.Joins Go.Deep

theorem kvOk_of {k : Kv} (h : kvB k = true) (hl : k.ln = k.es.length) (hg : k.ps.length ≤ 1048576 ∧ k.bs.length ≤ 1048576) : KvOk k := by
  unfold kvB loB at h
  simp only [Bool.and_eq_true, decide_eq_true_eq] at h
  obtain ⟨⟨t0, t1⟩, ⟨v0, v1⟩, b, g, l, x, r, la⟩ := h
  refine ⟨t0, t1, v0, v1, ?_, g, hg, by omega, by omega, r, la⟩
  by_cases h0 : k.B = 0
  · rw [baB_0 h0, beqZ, beqZ, Bool.and_eq_true, decide_eq_true_eq, decide_eq_true_eq] at b
    exact Or.inl (by omega)
  · rw [baB_1 h0] at b
    simp only [Bool.and_eq_true, decide_eq_true_eq] at b
    exact Or.inr (by omega)
theorem kvB_bl {k : Kv} (h : kvB k = true) : (0 ≤ k.B ∧ k.B ≤ 1000000) ∧ k.ln ≤ 120 := by
  unfold kvB loB at h
  simp only [Bool.and_eq_true, decide_eq_true_eq] at h
  exact ⟨baB_b h.2.2.1, by omega⟩
/-- What LastEntry answers. -/
def leI (k : Kv) : Int := if kvB k = true then k.B + (k.ln : Int) else 0
def leT (k : Kv) : Int := if kvB k = true then tmE k k.ln else 0
/-- What TermAt answers. -/
def tqT (k : Kv) (x : Int) : Int := if kvB k = true then taT k x else 0
def tqO (k : Kv) (x : Int) : Bool := kvB k && taO k x

set_option maxRecDepth 10000 in
set_option maxHeartbeats 8000000 in
theorem sLast_any (k : Kv) (w : World) (hs : k.gn ≤ 1048576 ∧ k.hn ≤ 1048576 ∧ k.ln ≤ 1048576) (hr : KvR w k) (hf : ∀ e ∈ k.es, EnF e) :
    Calls Try.prog 20 #[k.v] w fun e w' => e = .returned (.tuple #[.int .i64 (leI k), .int .i64 (leT k)]) ∧ Below w.heap.size w w' := by
  have HK := hidP (fun W (hb : Below w.heap.size w W) => sKeep_any k W hs (hr.later hb) hf)
  unfold leI leT
  cases h : kvB k
  · rw [if_neg (by decide), if_neg (by decide)]
    rw [h] at HK
    clear h hr hf hs
    obtain ⟨T, V, B, E, ga, gn, gc, ha, hn, hc, sa, sn, sc, la, ln, lc, ps, bs, es⟩ := k
    try simp only at HK
    go_enter Try.func20, Try.ntmps20
    go_wp2_with fail
    obtain ⟨b0, b1, b2, b3, b4, b5, b6, b7⟩ := box8K w 29 (.int .i64 T) (.int .i64 V) (.int .i64 B) (.int .i64 E) (.slice ga gn gc) (.slice ha hn hc) (.slice sa sn sc) (.slice la ln lc)
    have bB := alloc_below w (.cells #[.int .i64 T, .int .i64 V, .int .i64 B, .int .i64 E, .slice ga gn gc, .slice ha hn hc, .slice sa sn sc, .slice la ln lc] 29)
    have bL : w.heap.size < (w.alloc (.cells #[.int .i64 T, .int .i64 V, .int .i64 B, .int .i64 E, .slice ga gn gc, .slice ha hn hc, .slice sa sn sc, .slice la ln lc] 29)).heap.size := by simp
    generalize w.alloc (.cells #[.int .i64 T, .int .i64 V, .int .i64 B, .int .i64 E, .slice ga gn gc, .slice ha hn hc, .slice sa sn sc, .slice la ln lc] 29) = W1 at *
    refine (HK.out _ bB).mono ?_
    rintro e0 w2 ⟨rfl, hb2⟩
    have c0 := (hb2.cell bL).trans b0
    have c1 := (hb2.cell bL).trans b1
    have c2 := (hb2.cell bL).trans b2
    have c3 := (hb2.cell bL).trans b3
    have c4 := (hb2.cell bL).trans b4
    have c5 := (hb2.cell bL).trans b5
    have c6 := (hb2.cell bL).trans b6
    have c7 := (hb2.cell bL).trans b7
    have CB := hidP (bB.trans (hb2.mono bB.size))
    clear hb2 b0 b1 b2 b3 b4 b5 b6 b7 bB bL
    go_wp2_with fail
    refine bodyPost_ret (v := .tuple #[.int .i64 0, .int .i64 0]) (by simp [results, Try.results20, go_sem]) rfl ⟨rfl, CB.out⟩
  · rw [if_pos rfl, if_pos rfl]
    rw [h] at HK
    have HI := hidP (fun W (hb : Below w.heap.size w W) => l13Last_ex k W (hr.later hb) (kvB_bl h).1 (kvB_bl h).2)
    clear h hr hf hs
    generalize k.B + (k.ln : Int) = z at *
    generalize tmE k k.ln = q at *
    obtain ⟨T, V, B, E, ga, gn, gc, ha, hn, hc, sa, sn, sc, la, ln, lc, ps, bs, es⟩ := k
    try simp only at HK HI
    go_enter Try.func20, Try.ntmps20
    go_wp2_with fail
    obtain ⟨b0, b1, b2, b3, b4, b5, b6, b7⟩ := box8K w 29 (.int .i64 T) (.int .i64 V) (.int .i64 B) (.int .i64 E) (.slice ga gn gc) (.slice ha hn hc) (.slice sa sn sc) (.slice la ln lc)
    have bB := alloc_below w (.cells #[.int .i64 T, .int .i64 V, .int .i64 B, .int .i64 E, .slice ga gn gc, .slice ha hn hc, .slice sa sn sc, .slice la ln lc] 29)
    have bL : w.heap.size < (w.alloc (.cells #[.int .i64 T, .int .i64 V, .int .i64 B, .int .i64 E, .slice ga gn gc, .slice ha hn hc, .slice sa sn sc, .slice la ln lc] 29)).heap.size := by simp
    generalize w.alloc (.cells #[.int .i64 T, .int .i64 V, .int .i64 B, .int .i64 E, .slice ga gn gc, .slice ha hn hc, .slice sa sn sc, .slice la ln lc] 29) = W1 at *
    refine (HK.out _ bB).mono ?_
    rintro e0 w2 ⟨rfl, hb2⟩
    have c0 := (hb2.cell bL).trans b0
    have c1 := (hb2.cell bL).trans b1
    have c2 := (hb2.cell bL).trans b2
    have c3 := (hb2.cell bL).trans b3
    have c4 := (hb2.cell bL).trans b4
    have c5 := (hb2.cell bL).trans b5
    have c6 := (hb2.cell bL).trans b6
    have c7 := (hb2.cell bL).trans b7
    have CB := hidP (bB.trans (hb2.mono bB.size))
    clear hb2 b0 b1 b2 b3 b4 b5 b6 b7 bB bL
    go_wp2_with fail
    refine (HI.out _ CB.out).mono ?_
    rintro e0 w3 ⟨rfl, hb3⟩
    have CB3 := hidP (CB.out.trans (hb3.mono CB.out.size))
    clear hb3
    go_wp2_with fail
    refine bodyPost_ret (v := .tuple #[.int .i64 z, .int .i64 q]) (by simp [results, Try.results20, go_sem]) rfl ⟨rfl, CB3.out⟩

set_option maxRecDepth 10000 in
set_option maxHeartbeats 8000000 in
theorem iLast_any (k : Kv) (w : World) (hs : k.gn ≤ 1048576 ∧ k.hn ≤ 1048576 ∧ k.ln ≤ 1048576) (hr : KvR w k) :
    Calls Try.prog 11 #[k.v] w fun e w' => e = .returned (.tuple #[.int .i64 (leI k), .int .i64 (leT k)]) ∧ Below w.heap.size w w' := by
  have HK := hidP (fun W (hb : Below w.heap.size w W) => iKeep_any k W ⟨hs.1, hs.2.1⟩ (hr.later hb))
  unfold leI leT
  cases h : kvB k
  · rw [if_neg (by decide), if_neg (by decide)]
    rw [h] at HK
    clear h hr hs
    obtain ⟨T, V, B, E, ga, gn, gc, ha, hn, hc, sa, sn, sc, la, ln, lc, ps, bs, es⟩ := k
    try simp only at HK
    go_enter Try.func11, Try.ntmps11
    go_wp2_with fail
    obtain ⟨b0, b1, b2, b3, b4, b5, b6, b7⟩ := box8K w 29 (.int .i64 T) (.int .i64 V) (.int .i64 B) (.int .i64 E) (.slice ga gn gc) (.slice ha hn hc) (.slice sa sn sc) (.slice la ln lc)
    have bB := alloc_below w (.cells #[.int .i64 T, .int .i64 V, .int .i64 B, .int .i64 E, .slice ga gn gc, .slice ha hn hc, .slice sa sn sc, .slice la ln lc] 29)
    have bL : w.heap.size < (w.alloc (.cells #[.int .i64 T, .int .i64 V, .int .i64 B, .int .i64 E, .slice ga gn gc, .slice ha hn hc, .slice sa sn sc, .slice la ln lc] 29)).heap.size := by simp
    generalize w.alloc (.cells #[.int .i64 T, .int .i64 V, .int .i64 B, .int .i64 E, .slice ga gn gc, .slice ha hn hc, .slice sa sn sc, .slice la ln lc] 29) = W1 at *
    refine (HK.out _ bB).mono ?_
    rintro e0 w2 ⟨rfl, hb2⟩
    have c0 := (hb2.cell bL).trans b0
    have c1 := (hb2.cell bL).trans b1
    have c2 := (hb2.cell bL).trans b2
    have c3 := (hb2.cell bL).trans b3
    have c4 := (hb2.cell bL).trans b4
    have c5 := (hb2.cell bL).trans b5
    have c6 := (hb2.cell bL).trans b6
    have c7 := (hb2.cell bL).trans b7
    have CB := hidP (bB.trans (hb2.mono bB.size))
    clear hb2 b0 b1 b2 b3 b4 b5 b6 b7 bB bL
    go_wp2_with fail
    refine bodyPost_ret (v := .tuple #[.int .i64 0, .int .i64 0]) (by simp [results, Try.results11, go_sem]) rfl ⟨rfl, CB.out⟩
  · rw [if_pos rfl, if_pos rfl]
    have ho := kvOk_of h hr.hl ⟨by rw [← hr.hg]; exact hs.1, by rw [← hr.hh]; exact hs.2.1⟩
    exact lastEn k ho w hr

set_option maxRecDepth 10000 in
set_option maxHeartbeats 8000000 in
theorem sTerm_any (k : Kv) (x : Int) (hx1 : x ≤ 9223372036854775807) (w : World) (hs : k.gn ≤ 1048576 ∧ k.hn ≤ 1048576 ∧ k.ln ≤ 1048576) (hr : KvR w k) (hf : ∀ e ∈ k.es, EnF e) :
    Calls Try.prog 21 #[k.v, .int .i64 x] w fun e w' => e = .returned (.tuple #[.int .i64 (tqT k x), .bool (tqO k x)]) ∧ Below w.heap.size w w' := by
  have HK := hidP (fun W (hb : Below w.heap.size w W) => sKeep_any k W hs (hr.later hb) hf)
  unfold tqT tqO
  cases h : kvB k
  · rw [if_neg (by decide), Bool.false_and]
    rw [h] at HK
    clear h hr hf hs
    obtain ⟨T, V, B, E, ga, gn, gc, ha, hn, hc, sa, sn, sc, la, ln, lc, ps, bs, es⟩ := k
    try simp only at HK
    go_enter Try.func21, Try.ntmps21
    go_wp2_with fail
    obtain ⟨b0, b1, b2, b3, b4, b5, b6, b7⟩ := box8K w 29 (.int .i64 T) (.int .i64 V) (.int .i64 B) (.int .i64 E) (.slice ga gn gc) (.slice ha hn hc) (.slice sa sn sc) (.slice la ln lc)
    have bB := alloc_below w (.cells #[.int .i64 T, .int .i64 V, .int .i64 B, .int .i64 E, .slice ga gn gc, .slice ha hn hc, .slice sa sn sc, .slice la ln lc] 29)
    have bL : w.heap.size < (w.alloc (.cells #[.int .i64 T, .int .i64 V, .int .i64 B, .int .i64 E, .slice ga gn gc, .slice ha hn hc, .slice sa sn sc, .slice la ln lc] 29)).heap.size := by simp
    generalize w.alloc (.cells #[.int .i64 T, .int .i64 V, .int .i64 B, .int .i64 E, .slice ga gn gc, .slice ha hn hc, .slice sa sn sc, .slice la ln lc] 29) = W1 at *
    refine (HK.out _ bB).mono ?_
    rintro e0 w2 ⟨rfl, hb2⟩
    have c0 := (hb2.cell bL).trans b0
    have c1 := (hb2.cell bL).trans b1
    have c2 := (hb2.cell bL).trans b2
    have c3 := (hb2.cell bL).trans b3
    have c4 := (hb2.cell bL).trans b4
    have c5 := (hb2.cell bL).trans b5
    have c6 := (hb2.cell bL).trans b6
    have c7 := (hb2.cell bL).trans b7
    have CB := hidP (bB.trans (hb2.mono bB.size))
    clear hb2 b0 b1 b2 b3 b4 b5 b6 b7 bB bL
    go_wp2_with fail
    refine bodyPost_ret (v := .tuple #[.int .i64 0, .bool false]) (by simp [results, Try.results21, go_sem]) rfl ⟨rfl, CB.out⟩
  · rw [if_pos rfl, Bool.true_and]
    rw [h] at HK
    have HI := hidP (fun W (hb : Below w.heap.size w W) => l13TermAt_ex k x W (hr.later hb) (kvB_bl h).1 (kvB_bl h).2 hx1)
    clear h hr hf hs
    generalize taT k x = z at *
    generalize taO k x = q at *
    obtain ⟨T, V, B, E, ga, gn, gc, ha, hn, hc, sa, sn, sc, la, ln, lc, ps, bs, es⟩ := k
    try simp only at HK HI
    go_enter Try.func21, Try.ntmps21
    go_wp2_with fail
    obtain ⟨b0, b1, b2, b3, b4, b5, b6, b7⟩ := box8K w 29 (.int .i64 T) (.int .i64 V) (.int .i64 B) (.int .i64 E) (.slice ga gn gc) (.slice ha hn hc) (.slice sa sn sc) (.slice la ln lc)
    have bB := alloc_below w (.cells #[.int .i64 T, .int .i64 V, .int .i64 B, .int .i64 E, .slice ga gn gc, .slice ha hn hc, .slice sa sn sc, .slice la ln lc] 29)
    have bL : w.heap.size < (w.alloc (.cells #[.int .i64 T, .int .i64 V, .int .i64 B, .int .i64 E, .slice ga gn gc, .slice ha hn hc, .slice sa sn sc, .slice la ln lc] 29)).heap.size := by simp
    generalize w.alloc (.cells #[.int .i64 T, .int .i64 V, .int .i64 B, .int .i64 E, .slice ga gn gc, .slice ha hn hc, .slice sa sn sc, .slice la ln lc] 29) = W1 at *
    refine (HK.out _ bB).mono ?_
    rintro e0 w2 ⟨rfl, hb2⟩
    have c0 := (hb2.cell bL).trans b0
    have c1 := (hb2.cell bL).trans b1
    have c2 := (hb2.cell bL).trans b2
    have c3 := (hb2.cell bL).trans b3
    have c4 := (hb2.cell bL).trans b4
    have c5 := (hb2.cell bL).trans b5
    have c6 := (hb2.cell bL).trans b6
    have c7 := (hb2.cell bL).trans b7
    have CB := hidP (bB.trans (hb2.mono bB.size))
    clear hb2 b0 b1 b2 b3 b4 b5 b6 b7 bB bL
    go_wp2_with fail
    refine (HI.out _ CB.out).mono ?_
    rintro e0 w3 ⟨rfl, hb3⟩
    have CB3 := hidP (CB.out.trans (hb3.mono CB.out.size))
    clear hb3
    go_wp2_with fail
    refine bodyPost_ret (v := .tuple #[.int .i64 z, .bool q]) (by simp [results, Try.results21, go_sem]) rfl ⟨rfl, CB3.out⟩

set_option maxRecDepth 10000 in
set_option maxHeartbeats 8000000 in
theorem iTerm_any (k : Kv) (x : Int) (w : World) (hs : k.gn ≤ 1048576 ∧ k.hn ≤ 1048576 ∧ k.ln ≤ 1048576) (hr : KvR w k) :
    Calls Try.prog 12 #[k.v, .int .i64 x] w fun e w' => e = .returned (.tuple #[.int .i64 (tqT k x), .bool (tqO k x)]) ∧ Below w.heap.size w w' := by
  have HK := hidP (fun W (hb : Below w.heap.size w W) => iKeep_any k W ⟨hs.1, hs.2.1⟩ (hr.later hb))
  unfold tqT tqO
  cases h : kvB k
  · rw [if_neg (by decide), Bool.false_and]
    rw [h] at HK
    clear h hr hs
    obtain ⟨T, V, B, E, ga, gn, gc, ha, hn, hc, sa, sn, sc, la, ln, lc, ps, bs, es⟩ := k
    try simp only at HK
    go_enter Try.func12, Try.ntmps12
    go_wp2_with fail
    obtain ⟨b0, b1, b2, b3, b4, b5, b6, b7⟩ := box8K w 29 (.int .i64 T) (.int .i64 V) (.int .i64 B) (.int .i64 E) (.slice ga gn gc) (.slice ha hn hc) (.slice sa sn sc) (.slice la ln lc)
    have bB := alloc_below w (.cells #[.int .i64 T, .int .i64 V, .int .i64 B, .int .i64 E, .slice ga gn gc, .slice ha hn hc, .slice sa sn sc, .slice la ln lc] 29)
    have bL : w.heap.size < (w.alloc (.cells #[.int .i64 T, .int .i64 V, .int .i64 B, .int .i64 E, .slice ga gn gc, .slice ha hn hc, .slice sa sn sc, .slice la ln lc] 29)).heap.size := by simp
    generalize w.alloc (.cells #[.int .i64 T, .int .i64 V, .int .i64 B, .int .i64 E, .slice ga gn gc, .slice ha hn hc, .slice sa sn sc, .slice la ln lc] 29) = W1 at *
    refine (HK.out _ bB).mono ?_
    rintro e0 w2 ⟨rfl, hb2⟩
    have c0 := (hb2.cell bL).trans b0
    have c1 := (hb2.cell bL).trans b1
    have c2 := (hb2.cell bL).trans b2
    have c3 := (hb2.cell bL).trans b3
    have c4 := (hb2.cell bL).trans b4
    have c5 := (hb2.cell bL).trans b5
    have c6 := (hb2.cell bL).trans b6
    have c7 := (hb2.cell bL).trans b7
    have CB := hidP (bB.trans (hb2.mono bB.size))
    clear hb2 b0 b1 b2 b3 b4 b5 b6 b7 bB bL
    go_wp2_with fail
    refine bodyPost_ret (v := .tuple #[.int .i64 0, .bool false]) (by simp [results, Try.results12, go_sem]) rfl ⟨rfl, CB.out⟩
  · rw [if_pos rfl, Bool.true_and]
    have ho := kvOk_of h hr.hl ⟨by rw [← hr.hg]; exact hs.1, by rw [← hr.hh]; exact hs.2.1⟩
    by_cases h2 : x < k.B ∨ k.B + (k.ln : Int) < x
    · have hn := taO_n (k := k) (x := x) (by omega)
      rw [taT_n hn, hn]
      exact termAtN k ho x h2 w hr
    · rw [taT_y (x - k.B).toNat (by omega) (by omega), taO_y (by omega) (by omega)]
      exact termAtY k ho (x - k.B).toNat x (by omega) (by omega) w hr


end Go.Proofs.Ytamaanbnlnpjcaa
