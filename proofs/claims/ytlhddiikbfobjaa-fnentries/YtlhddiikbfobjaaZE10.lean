/-
  The program's KeepOk, lastIndex, termAt, LastEntry and TermAt of a right Keep.
-/
import Derived.Test.YtlhddiikbfobjaaZE7
import Derived.Test.YtlhddiikbfobjaaZE9
import Derived.Test.YtlhddiikbfobjaaZE1
namespace Go.Proofs.Ytlhddiikbfobjaa
open Go.ChangeShapes Go.WideShapes Go.ChangeAt Go.RowKit Go.Joins Go.Deep

theorem KvOk.b {k : Kv} (h : KvOk k) : 0 ≤ k.B ∧ k.B ≤ 1000000 := by rcases h.bs with h | h <;> omega
/-- The term at Base and i more. -/
def tmE (k : Kv) : Nat → Int
  | 0 => k.E
  | j + 1 => ((k.es[j]?).map En.T).getD 0

set_option maxRecDepth 10000 in
set_option maxHeartbeats 4000000 in
theorem iKeepOk_yes (k : Kv) (ho : KvOk k) (w : World) (hr : KvR w k) :
    Calls Try.prog 9 #[k.v] w fun e w' => e = .returned (.bool true) ∧ Below w.heap.size w w' := by
  have HBs := hidP (baseOk_yes k ho)
  have HGr := hidP (fun W h => iGroupOk_any k.ga k.gn k.gc k.ha k.hn k.hc k.ps k.bs W hr.hg hr.hh (hr.rg.later h) (hr.rh.later h) (by rw [hr.hg]; exact ho.gs.1) (by rw [hr.hh]; exact ho.gs.2))
  rw [ho.gr] at HGr
  have HLo := hidP (fun W h => logOk_yes k ho W (hr.later h))
  have a1 : decide (0 ≤ k.T) = true := decide_eq_true ho.t0
  have a2 : decide (k.T ≤ 1000000) = true := decide_eq_true ho.t1
  have a3 : decide (0 ≤ k.V) = true := decide_eq_true ho.v0
  have a4 : decide (k.V ≤ 7) = true := decide_eq_true ho.v1
  clear ho hr
  go_enter Try.func9, Try.ntmps9
  go_wp2_with fail
  obtain ⟨kb0_W1, kb1_W1, kb2_W1, kb3_W1, kb4_W1, kb5_W1, kb6_W1, kb7_W1⟩ := box8K w 29 (.int .i64 k.T) (.int .i64 k.V) (.int .i64 k.B) (.int .i64 k.E) (.slice k.ga k.gn k.gc) (.slice k.ha k.hn k.hc) (.slice k.sa k.sn k.sc) (.slice k.la k.ln k.lc)
  have kbF_W1 : ∀ o, (w.alloc (.cells #[.int .i64 k.T, .int .i64 k.V, .int .i64 k.B, .int .i64 k.E, .slice k.ga k.gn k.gc, .slice k.ha k.hn k.hc, .slice k.sa k.sn k.sc, .slice k.la k.ln k.lc] 29)).frozen? ⟨w.heap.size, o, none⟩ = false := fun o => by simp [go_sem]
  have kbL_W1 : w.heap.size < (w.alloc (.cells #[.int .i64 k.T, .int .i64 k.V, .int .i64 k.B, .int .i64 k.E, .slice k.ga k.gn k.gc, .slice k.ha k.hn k.hc, .slice k.sa k.sn k.sc, .slice k.la k.ln k.lc] 29)).heap.size := by simp
  have ab_W1 := alloc_below w (.cells #[.int .i64 k.T, .int .i64 k.V, .int .i64 k.B, .int .i64 k.E, .slice k.ga k.gn k.gc, .slice k.ha k.hn k.hc, .slice k.sa k.sn k.sc, .slice k.la k.ln k.lc] 29)
  have as_W1 : Hid ((w.alloc (.cells #[.int .i64 k.T, .int .i64 k.V, .int .i64 k.B, .int .i64 k.E, .slice k.ga k.gn k.gc, .slice k.ha k.hn k.hc, .slice k.sa k.sn k.sc, .slice k.la k.ln k.lc] 29)).heap.size = w.heap.size + 1) := hidP (by simp)
  generalize w.alloc (.cells #[.int .i64 k.T, .int .i64 k.V, .int .i64 k.B, .int .i64 k.E, .slice k.ga k.gn k.gc, .slice k.ha k.hn k.hc, .slice k.sa k.sn k.sc, .slice k.la k.ln k.lc] 29) = W1 at *
  have acc_W1 := hidP (ab_W1)
  have sz_W1 : Hid (w.heap.size ≤ W1.heap.size) := hidP ab_W1.size
  clear ab_W1 
  refine (HBs.out _).mono ?_
  rintro e w2 ⟨rfl, hb2⟩
  have kb0_w2 := (hb2.cell kbL_W1).trans kb0_W1
  have kb1_w2 := (hb2.cell kbL_W1).trans kb1_W1
  have kb2_w2 := (hb2.cell kbL_W1).trans kb2_W1
  have kb3_w2 := (hb2.cell kbL_W1).trans kb3_W1
  have kb4_w2 := (hb2.cell kbL_W1).trans kb4_W1
  have kb5_w2 := (hb2.cell kbL_W1).trans kb5_W1
  have kb6_w2 := (hb2.cell kbL_W1).trans kb6_W1
  have kb7_w2 := (hb2.cell kbL_W1).trans kb7_W1
  have kbF_w2 : ∀ o, w2.frozen? ⟨w.heap.size, o, none⟩ = false := fun o => (hb2.frozen kbL_W1).trans (kbF_W1 o)
  have kbL_w2 : w.heap.size < w2.heap.size := Nat.lt_of_lt_of_le kbL_W1 hb2.size
  have acc_w2 := hidP (acc_W1.out.trans (hb2.mono acc_W1.out.size))
  have sz_w2 : Hid (W1.heap.size ≤ w2.heap.size) := hidP hb2.size
  clear hb2 kb0_W1 kb1_W1 kb2_W1 kb3_W1 kb4_W1 kb5_W1 kb6_W1 kb7_W1 kbF_W1 kbL_W1 acc_W1
  go_wp2_with fail
  refine (HGr.out _ acc_w2.out).mono ?_
  rintro e w3 ⟨rfl, hb3⟩
  have kb0_w3 := (hb3.cell kbL_w2).trans kb0_w2
  have kb1_w3 := (hb3.cell kbL_w2).trans kb1_w2
  have kb2_w3 := (hb3.cell kbL_w2).trans kb2_w2
  have kb3_w3 := (hb3.cell kbL_w2).trans kb3_w2
  have kb4_w3 := (hb3.cell kbL_w2).trans kb4_w2
  have kb5_w3 := (hb3.cell kbL_w2).trans kb5_w2
  have kb6_w3 := (hb3.cell kbL_w2).trans kb6_w2
  have kb7_w3 := (hb3.cell kbL_w2).trans kb7_w2
  have kbF_w3 : ∀ o, w3.frozen? ⟨w.heap.size, o, none⟩ = false := fun o => (hb3.frozen kbL_w2).trans (kbF_w2 o)
  have kbL_w3 : w.heap.size < w3.heap.size := Nat.lt_of_lt_of_le kbL_w2 hb3.size
  have acc_w3 := hidP (acc_w2.out.trans (hb3.mono acc_w2.out.size))
  have sz_w3 : Hid (w2.heap.size ≤ w3.heap.size) := hidP hb3.size
  clear hb3 kb0_w2 kb1_w2 kb2_w2 kb3_w2 kb4_w2 kb5_w2 kb6_w2 kb7_w2 kbF_w2 kbL_w2 acc_w2
  go_wp2_with fail
  refine (HLo.out _ acc_w3.out).mono ?_
  rintro e w4 ⟨rfl, hb4⟩
  have kb0_w4 := (hb4.cell kbL_w3).trans kb0_w3
  have kb1_w4 := (hb4.cell kbL_w3).trans kb1_w3
  have kb2_w4 := (hb4.cell kbL_w3).trans kb2_w3
  have kb3_w4 := (hb4.cell kbL_w3).trans kb3_w3
  have kb4_w4 := (hb4.cell kbL_w3).trans kb4_w3
  have kb5_w4 := (hb4.cell kbL_w3).trans kb5_w3
  have kb6_w4 := (hb4.cell kbL_w3).trans kb6_w3
  have kb7_w4 := (hb4.cell kbL_w3).trans kb7_w3
  have kbF_w4 : ∀ o, w4.frozen? ⟨w.heap.size, o, none⟩ = false := fun o => (hb4.frozen kbL_w3).trans (kbF_w3 o)
  have kbL_w4 : w.heap.size < w4.heap.size := Nat.lt_of_lt_of_le kbL_w3 hb4.size
  have acc_w4 := hidP (acc_w3.out.trans (hb4.mono acc_w3.out.size))
  have sz_w4 : Hid (w3.heap.size ≤ w4.heap.size) := hidP hb4.size
  clear hb4 kb0_w3 kb1_w3 kb2_w3 kb3_w3 kb4_w3 kb5_w3 kb6_w3 kb7_w3 kbF_w3 kbL_w3 acc_w3
  go_wp2_with fail
  go_ret
  exact ⟨rfl, acc_w4.out⟩

set_option maxRecDepth 10000 in
set_option maxHeartbeats 4000000 in
theorem termAtP (k : Kv) (i : Nat) (x : Int) (w : World) (hr : KvR w k) (hx : x = k.B + (i : Int)) (hi : i ≤ k.ln) (h2 : k.ln ≤ 120) :
    Calls Try.prog 26 #[k.v, .int .i64 x] w fun e w' => e = .returned (.int .i64 (tmE k i)) ∧ Below w.heap.size w w' := by
  cases i with
  | zero =>
    have e1 : (x == k.B) = true := by simp; omega
    show Calls _ _ _ _ fun e w' => e = .returned (.int .i64 k.E) ∧ Below w.heap.size w w'
    clear hx hr
    go_enter Try.func26, Try.ntmps26
    go_wp2_with fail
    go_ret
    exact ⟨rfl, alloc_below w _⟩
  | succ j =>
    have e1 : (x == k.B) = false := by simp; omega
    obtain ⟨p, o, e, ha, hp, he, c0, c1, c2⟩ := rowEn hr.rl j (by have := hr.hl; omega)
    have ht : tmE k (j + 1) = e.T := by show ((k.es[j]?).map En.T).getD 0 = e.T; rw [he]; rfl
    rw [ht]
    have w1 : IntKind.i64.wrap (x - k.B) = (j : Int) + 1 := by rw [IntKind.wrap_i64]; omega
    obtain ⟨y, hy⟩ : ∃ y : Int, (j : Int) + 1 = y := ⟨_, rfl⟩
    have w2 : IntKind.i64.wrap (y - 1) = (j : Int) := by rw [IntKind.wrap_i64]; omega
    rw [hy] at w1
    have j0 : (0 : Int) ≤ (j : Int) := by omega
    have j1 : (j : Int) < (k.ln : Int) := by omega
    have kB := alloc_below w (.cells #[.int .i64 k.T, .int .i64 k.V, .int .i64 k.B, .int .i64 k.E, .slice k.ga k.gn k.gc, .slice k.ha k.hn k.hc, .slice k.sa k.sn k.sc, .slice k.la k.ln k.lc] 29)
    have x0 := (kB.cell hp).trans c0
    have HKB := hidP kB
    have hp1 : p < w.heap.size + 1 := by omega
    have hne : ¬ (p = w.heap.size) := by omega
    have hne2 : ¬ (w.heap.size = p) := by omega
    clear hx hr hy he ht c1 c2 kB
    obtain ⟨la, hla⟩ : ∃ la, k.la = la := ⟨_, rfl⟩
    go_enter Try.func26, Try.ntmps26
    go_wp2_with fail
    go_ret
    exact ⟨rfl, alloc_below w _⟩

set_option maxRecDepth 10000 in
set_option maxHeartbeats 4000000 in
theorem lastEn (k : Kv) (ho : KvOk k) (w : World) (hr : KvR w k) :
    Calls Try.prog 7 #[k.v] w fun e w' => e = .returned (.tuple #[.int .i64 (k.B + (k.ln : Int)), .int .i64 (tmE k k.ln)]) ∧ Below w.heap.size w w' := by
  have h2 : k.ln ≤ 120 := by rw [hr.hl]; exact ho.lg
  have HKo := hidP (fun W h => iKeepOk_yes k ho W (hr.later h))
  have HLx := hidP (fun W => lastIx k W ho.b h2)
  have HTm := hidP (fun W h => termAtP k k.ln (k.B + (k.ln : Int)) W (hr.later h) rfl (Nat.le_refl _) h2)
  clear ho hr
  generalize tmE k k.ln = q at *
  generalize k.B + (k.ln : Int) = z at *
  go_enter Try.func7, Try.ntmps7
  go_wp2_with fail
  obtain ⟨kb0_W1, kb1_W1, kb2_W1, kb3_W1, kb4_W1, kb5_W1, kb6_W1, kb7_W1⟩ := box8K w 29 (.int .i64 k.T) (.int .i64 k.V) (.int .i64 k.B) (.int .i64 k.E) (.slice k.ga k.gn k.gc) (.slice k.ha k.hn k.hc) (.slice k.sa k.sn k.sc) (.slice k.la k.ln k.lc)
  have kbF_W1 : ∀ o, (w.alloc (.cells #[.int .i64 k.T, .int .i64 k.V, .int .i64 k.B, .int .i64 k.E, .slice k.ga k.gn k.gc, .slice k.ha k.hn k.hc, .slice k.sa k.sn k.sc, .slice k.la k.ln k.lc] 29)).frozen? ⟨w.heap.size, o, none⟩ = false := fun o => by simp [go_sem]
  have kbL_W1 : w.heap.size < (w.alloc (.cells #[.int .i64 k.T, .int .i64 k.V, .int .i64 k.B, .int .i64 k.E, .slice k.ga k.gn k.gc, .slice k.ha k.hn k.hc, .slice k.sa k.sn k.sc, .slice k.la k.ln k.lc] 29)).heap.size := by simp
  have ab_W1 := alloc_below w (.cells #[.int .i64 k.T, .int .i64 k.V, .int .i64 k.B, .int .i64 k.E, .slice k.ga k.gn k.gc, .slice k.ha k.hn k.hc, .slice k.sa k.sn k.sc, .slice k.la k.ln k.lc] 29)
  have as_W1 : Hid ((w.alloc (.cells #[.int .i64 k.T, .int .i64 k.V, .int .i64 k.B, .int .i64 k.E, .slice k.ga k.gn k.gc, .slice k.ha k.hn k.hc, .slice k.sa k.sn k.sc, .slice k.la k.ln k.lc] 29)).heap.size = w.heap.size + 1) := hidP (by simp)
  generalize w.alloc (.cells #[.int .i64 k.T, .int .i64 k.V, .int .i64 k.B, .int .i64 k.E, .slice k.ga k.gn k.gc, .slice k.ha k.hn k.hc, .slice k.sa k.sn k.sc, .slice k.la k.ln k.lc] 29) = W1 at *
  have acc_W1 := hidP (ab_W1)
  have sz_W1 : Hid (w.heap.size ≤ W1.heap.size) := hidP ab_W1.size
  clear ab_W1 
  refine (HKo.out _ acc_W1.out).mono ?_
  rintro e w2 ⟨rfl, hb2⟩
  have kb0_w2 := (hb2.cell kbL_W1).trans kb0_W1
  have kb1_w2 := (hb2.cell kbL_W1).trans kb1_W1
  have kb2_w2 := (hb2.cell kbL_W1).trans kb2_W1
  have kb3_w2 := (hb2.cell kbL_W1).trans kb3_W1
  have kb4_w2 := (hb2.cell kbL_W1).trans kb4_W1
  have kb5_w2 := (hb2.cell kbL_W1).trans kb5_W1
  have kb6_w2 := (hb2.cell kbL_W1).trans kb6_W1
  have kb7_w2 := (hb2.cell kbL_W1).trans kb7_W1
  have kbF_w2 : ∀ o, w2.frozen? ⟨w.heap.size, o, none⟩ = false := fun o => (hb2.frozen kbL_W1).trans (kbF_W1 o)
  have kbL_w2 : w.heap.size < w2.heap.size := Nat.lt_of_lt_of_le kbL_W1 hb2.size
  have acc_w2 := hidP (acc_W1.out.trans (hb2.mono acc_W1.out.size))
  have sz_w2 : Hid (W1.heap.size ≤ w2.heap.size) := hidP hb2.size
  clear hb2 kb0_W1 kb1_W1 kb2_W1 kb3_W1 kb4_W1 kb5_W1 kb6_W1 kb7_W1 kbF_W1 kbL_W1 acc_W1
  go_wp2_with fail
  have HSx : Hid (∀ x, Below w2.heap.size w2 x → (x.cell? ⟨w.heap.size, 0, none⟩ = some (.int .i64 k.T) ∧ x.cell? ⟨w.heap.size, 1, none⟩ = some (.int .i64 k.V) ∧ x.cell? ⟨w.heap.size, 2, none⟩ = some (.int .i64 k.B) ∧ x.cell? ⟨w.heap.size, 3, none⟩ = some (.int .i64 k.E) ∧ x.cell? ⟨w.heap.size, 4, none⟩ = some (.slice k.ga k.gn k.gc) ∧ x.cell? ⟨w.heap.size, 5, none⟩ = some (.slice k.ha k.hn k.hc) ∧ x.cell? ⟨w.heap.size, 6, none⟩ = some (.slice k.sa k.sn k.sc) ∧ x.cell? ⟨w.heap.size, 7, none⟩ = some (.slice k.la k.ln k.lc) ∧ Below w2.heap.size w2 x)) := hidP fun x h =>
    ⟨(h.cell kbL_w2).trans kb0_w2, (h.cell kbL_w2).trans kb1_w2, (h.cell kbL_w2).trans kb2_w2, (h.cell kbL_w2).trans kb3_w2, (h.cell kbL_w2).trans kb4_w2, (h.cell kbL_w2).trans kb5_w2, (h.cell kbL_w2).trans kb6_w2, (h.cell kbL_w2).trans kb7_w2, h⟩
  refine wp_region_held_drew (S := (fun x => x.cell? ⟨w.heap.size, 0, none⟩ = some (.int .i64 k.T) ∧ x.cell? ⟨w.heap.size, 1, none⟩ = some (.int .i64 k.V) ∧ x.cell? ⟨w.heap.size, 2, none⟩ = some (.int .i64 k.B) ∧ x.cell? ⟨w.heap.size, 3, none⟩ = some (.int .i64 k.E) ∧ x.cell? ⟨w.heap.size, 4, none⟩ = some (.slice k.ga k.gn k.gc) ∧ x.cell? ⟨w.heap.size, 5, none⟩ = some (.slice k.ha k.hn k.hc) ∧ x.cell? ⟨w.heap.size, 6, none⟩ = some (.slice k.sa k.sn k.sc) ∧ x.cell? ⟨w.heap.size, 7, none⟩ = some (.slice k.la k.ln k.lc) ∧ Below w2.heap.size w2 x)) (by kernel_rfl) ?_ (fun hHeld => ?_)
  · try dsimp only
    exact HSx.out _ ((Below.refl _ _).drew)
  refine tk 0 7 rfl ?_
  simp only [pa]
  refine tk 2 9 rfl ?_
  simp only [pa]
  refine tk 3 10 rfl ?_
  simp only [pa]
  refine wpAnyH_ready (rs := [1]) (by kernel_rfl) (by simp) ?_
  refine AllReadyH.cons rfl (fun K hK => ?_) AllReadyH.nil
  go_simp
  go_wp2_with (first | (go_at_call 25; refine (HLx.out _).mono ?_; rintro e w3 ⟨rfl, hb3⟩; have b3 := (hHeld.2.2.2.2.2.2.2.2).trans (hb3.mono (hHeld.2.2.2.2.2.2.2.2).size)))
  refine hK.out _ _ ?_ (fun hHeld => ?_)
  · try dsimp only
    exact HSx.out _ b3
  clear hK K
  refine wpAnyH_ready (rs := [4]) (by kernel_rfl) (by simp) ?_
  refine AllReadyH.cons rfl (fun K hK => ?_) AllReadyH.nil
  go_simp
  go_wp2_with (first | (go_at_call 25; refine (HLx.out _).mono ?_; rintro e w4 ⟨rfl, hb4⟩; have b4 := (hHeld.2.2.2.2.2.2.2.2).trans (hb4.mono (hHeld.2.2.2.2.2.2.2.2).size)))
  refine hK.out _ _ ?_ (fun hHeld => ?_)
  · try dsimp only
    exact HSx.out _ b4
  clear hK K
  refine wpAnyH_ready (rs := [5]) (by kernel_rfl) (by simp) ?_
  refine AllReadyH.cons rfl (fun K hK => ?_) AllReadyH.nil
  go_simp
  go_wp2_with (first | (go_at_call 26; refine (HTm.out _ (acc_w2.out.trans ((hHeld.2.2.2.2.2.2.2.2).mono acc_w2.out.size))).mono ?_; rintro e w5 ⟨rfl, hb5⟩; have b5 := (hHeld.2.2.2.2.2.2.2.2).trans (hb5.mono (hHeld.2.2.2.2.2.2.2.2).size)))
  refine hK.out _ _ ?_ (fun hHeld => ?_)
  · try dsimp only
    exact HSx.out _ b5
  clear hK K
  refine tk 6 2 rfl ?_
  simp only [pa]
  refine tk 7 3 rfl ?_
  simp only [pa]
  have HE := hidP (hHeld.2.2.2.2.2.2.2.2)
  refine wpAnyH_done (by kernel_rfl) ?_ _
  clear hHeld
  go_wp2_with fail
  refine bodyPost_ret (v := .tuple #[.int .i64 z, .int .i64 q]) (by simp [results, Try.results7, go_sem]) rfl ⟨rfl, acc_w2.out.trans (HE.out.mono acc_w2.out.size)⟩

set_option maxRecDepth 10000 in
set_option maxHeartbeats 4000000 in
theorem termAtY (k : Kv) (ho : KvOk k) (i : Nat) (x : Int) (hx : x = k.B + (i : Int)) (hi : i ≤ k.ln) (w : World) (hr : KvR w k) :
    Calls Try.prog 8 #[k.v, .int .i64 x] w fun e w' => e = .returned (.tuple #[.int .i64 (tmE k i), .bool true]) ∧ Below w.heap.size w w' := by
  have h2 : k.ln ≤ 120 := by rw [hr.hl]; exact ho.lg
  have HKo := hidP (fun W h => iKeepOk_yes k ho W (hr.later h))
  have HLx := hidP (fun W => lastIx k W ho.b h2)
  have HTm := hidP (fun W h => termAtP k i x W (hr.later h) hx hi h2)
  have g1 : decide (x < k.B) = false := decide_eq_false (by omega)
  have g2 : ¬ (x < k.B) := by omega
  obtain ⟨z, hz⟩ : ∃ z, k.B + (k.ln : Int) = z := ⟨_, rfl⟩
  rw [hz] at HLx
  have g3 : decide (x > z) = false := decide_eq_false (by omega)
  have g4 : decide (z < x) = false := decide_eq_false (by omega)
  have g5 : ¬ (z < x) := by omega
  clear ho hr hx hz
  generalize tmE k i = q at *
  go_enter Try.func8, Try.ntmps8
  go_wp2_with fail
  obtain ⟨kb0_W1, kb1_W1, kb2_W1, kb3_W1, kb4_W1, kb5_W1, kb6_W1, kb7_W1⟩ := box8K w 29 (.int .i64 k.T) (.int .i64 k.V) (.int .i64 k.B) (.int .i64 k.E) (.slice k.ga k.gn k.gc) (.slice k.ha k.hn k.hc) (.slice k.sa k.sn k.sc) (.slice k.la k.ln k.lc)
  have kbF_W1 : ∀ o, (w.alloc (.cells #[.int .i64 k.T, .int .i64 k.V, .int .i64 k.B, .int .i64 k.E, .slice k.ga k.gn k.gc, .slice k.ha k.hn k.hc, .slice k.sa k.sn k.sc, .slice k.la k.ln k.lc] 29)).frozen? ⟨w.heap.size, o, none⟩ = false := fun o => by simp [go_sem]
  have kbL_W1 : w.heap.size < (w.alloc (.cells #[.int .i64 k.T, .int .i64 k.V, .int .i64 k.B, .int .i64 k.E, .slice k.ga k.gn k.gc, .slice k.ha k.hn k.hc, .slice k.sa k.sn k.sc, .slice k.la k.ln k.lc] 29)).heap.size := by simp
  have ab_W1 := alloc_below w (.cells #[.int .i64 k.T, .int .i64 k.V, .int .i64 k.B, .int .i64 k.E, .slice k.ga k.gn k.gc, .slice k.ha k.hn k.hc, .slice k.sa k.sn k.sc, .slice k.la k.ln k.lc] 29)
  have as_W1 : Hid ((w.alloc (.cells #[.int .i64 k.T, .int .i64 k.V, .int .i64 k.B, .int .i64 k.E, .slice k.ga k.gn k.gc, .slice k.ha k.hn k.hc, .slice k.sa k.sn k.sc, .slice k.la k.ln k.lc] 29)).heap.size = w.heap.size + 1) := hidP (by simp)
  generalize w.alloc (.cells #[.int .i64 k.T, .int .i64 k.V, .int .i64 k.B, .int .i64 k.E, .slice k.ga k.gn k.gc, .slice k.ha k.hn k.hc, .slice k.sa k.sn k.sc, .slice k.la k.ln k.lc] 29) = W1 at *
  have acc_W1 := hidP (ab_W1)
  have sz_W1 : Hid (w.heap.size ≤ W1.heap.size) := hidP ab_W1.size
  clear ab_W1 
  refine (HKo.out _ acc_W1.out).mono ?_
  rintro e w2 ⟨rfl, hb2⟩
  have kb0_w2 := (hb2.cell kbL_W1).trans kb0_W1
  have kb1_w2 := (hb2.cell kbL_W1).trans kb1_W1
  have kb2_w2 := (hb2.cell kbL_W1).trans kb2_W1
  have kb3_w2 := (hb2.cell kbL_W1).trans kb3_W1
  have kb4_w2 := (hb2.cell kbL_W1).trans kb4_W1
  have kb5_w2 := (hb2.cell kbL_W1).trans kb5_W1
  have kb6_w2 := (hb2.cell kbL_W1).trans kb6_W1
  have kb7_w2 := (hb2.cell kbL_W1).trans kb7_W1
  have kbF_w2 : ∀ o, w2.frozen? ⟨w.heap.size, o, none⟩ = false := fun o => (hb2.frozen kbL_W1).trans (kbF_W1 o)
  have kbL_w2 : w.heap.size < w2.heap.size := Nat.lt_of_lt_of_le kbL_W1 hb2.size
  have acc_w2 := hidP (acc_W1.out.trans (hb2.mono acc_W1.out.size))
  have sz_w2 : Hid (W1.heap.size ≤ w2.heap.size) := hidP hb2.size
  clear hb2 kb0_W1 kb1_W1 kb2_W1 kb3_W1 kb4_W1 kb5_W1 kb6_W1 kb7_W1 kbF_W1 kbL_W1 acc_W1
  go_wp2_with fail
  refine (HLx.out _).mono ?_
  rintro e w3 ⟨rfl, hb3⟩
  have kb0_w3 := (hb3.cell kbL_w2).trans kb0_w2
  have kb1_w3 := (hb3.cell kbL_w2).trans kb1_w2
  have kb2_w3 := (hb3.cell kbL_w2).trans kb2_w2
  have kb3_w3 := (hb3.cell kbL_w2).trans kb3_w2
  have kb4_w3 := (hb3.cell kbL_w2).trans kb4_w2
  have kb5_w3 := (hb3.cell kbL_w2).trans kb5_w2
  have kb6_w3 := (hb3.cell kbL_w2).trans kb6_w2
  have kb7_w3 := (hb3.cell kbL_w2).trans kb7_w2
  have kbF_w3 : ∀ o, w3.frozen? ⟨w.heap.size, o, none⟩ = false := fun o => (hb3.frozen kbL_w2).trans (kbF_w2 o)
  have kbL_w3 : w.heap.size < w3.heap.size := Nat.lt_of_lt_of_le kbL_w2 hb3.size
  have acc_w3 := hidP (acc_w2.out.trans (hb3.mono acc_w2.out.size))
  have sz_w3 : Hid (w2.heap.size ≤ w3.heap.size) := hidP hb3.size
  clear hb3 kb0_w2 kb1_w2 kb2_w2 kb3_w2 kb4_w2 kb5_w2 kb6_w2 kb7_w2 kbF_w2 kbL_w2 acc_w2
  go_wp2_with fail
  refine (HTm.out _ acc_w3.out).mono ?_
  rintro e w4 ⟨rfl, hb4⟩
  have kb0_w4 := (hb4.cell kbL_w3).trans kb0_w3
  have kb1_w4 := (hb4.cell kbL_w3).trans kb1_w3
  have kb2_w4 := (hb4.cell kbL_w3).trans kb2_w3
  have kb3_w4 := (hb4.cell kbL_w3).trans kb3_w3
  have kb4_w4 := (hb4.cell kbL_w3).trans kb4_w3
  have kb5_w4 := (hb4.cell kbL_w3).trans kb5_w3
  have kb6_w4 := (hb4.cell kbL_w3).trans kb6_w3
  have kb7_w4 := (hb4.cell kbL_w3).trans kb7_w3
  have kbF_w4 : ∀ o, w4.frozen? ⟨w.heap.size, o, none⟩ = false := fun o => (hb4.frozen kbL_w3).trans (kbF_w3 o)
  have kbL_w4 : w.heap.size < w4.heap.size := Nat.lt_of_lt_of_le kbL_w3 hb4.size
  have acc_w4 := hidP (acc_w3.out.trans (hb4.mono acc_w3.out.size))
  have sz_w4 : Hid (w3.heap.size ≤ w4.heap.size) := hidP hb4.size
  clear hb4 kb0_w3 kb1_w3 kb2_w3 kb3_w3 kb4_w3 kb5_w3 kb6_w3 kb7_w3 kbF_w3 kbL_w3 acc_w3
  go_wp2_with fail
  refine bodyPost_ret (v := .tuple #[.int .i64 q, .bool true]) (by simp [results, Try.results8, go_sem]) rfl ⟨rfl, acc_w4.out⟩

set_option maxRecDepth 10000 in
set_option maxHeartbeats 4000000 in
theorem termAtN (k : Kv) (ho : KvOk k) (x : Int) (hx : x < k.B ∨ k.B + (k.ln : Int) < x) (w : World) (hr : KvR w k) :
    Calls Try.prog 8 #[k.v, .int .i64 x] w fun e w' => e = .returned (.tuple #[.int .i64 0, .bool false]) ∧ Below w.heap.size w w' := by
  have h2 : k.ln ≤ 120 := by rw [hr.hl]; exact ho.lg
  have HKo := hidP (fun W h => iKeepOk_yes k ho W (hr.later h))
  have HLx := hidP (fun W => lastIx k W ho.b h2)
  obtain ⟨z, hz⟩ : ∃ z, k.B + (k.ln : Int) = z := ⟨_, rfl⟩
  rw [hz] at HLx hx
  clear ho hr hz
  by_cases h1 : x < k.B
  · have g1 : decide (x < k.B) = true := decide_eq_true h1
    clear hx HLx
    go_enter Try.func8, Try.ntmps8
    go_wp2_with fail
    obtain ⟨kb0_W1, kb1_W1, kb2_W1, kb3_W1, kb4_W1, kb5_W1, kb6_W1, kb7_W1⟩ := box8K w 29 (.int .i64 k.T) (.int .i64 k.V) (.int .i64 k.B) (.int .i64 k.E) (.slice k.ga k.gn k.gc) (.slice k.ha k.hn k.hc) (.slice k.sa k.sn k.sc) (.slice k.la k.ln k.lc)
    have kbF_W1 : ∀ o, (w.alloc (.cells #[.int .i64 k.T, .int .i64 k.V, .int .i64 k.B, .int .i64 k.E, .slice k.ga k.gn k.gc, .slice k.ha k.hn k.hc, .slice k.sa k.sn k.sc, .slice k.la k.ln k.lc] 29)).frozen? ⟨w.heap.size, o, none⟩ = false := fun o => by simp [go_sem]
    have kbL_W1 : w.heap.size < (w.alloc (.cells #[.int .i64 k.T, .int .i64 k.V, .int .i64 k.B, .int .i64 k.E, .slice k.ga k.gn k.gc, .slice k.ha k.hn k.hc, .slice k.sa k.sn k.sc, .slice k.la k.ln k.lc] 29)).heap.size := by simp
    have ab_W1 := alloc_below w (.cells #[.int .i64 k.T, .int .i64 k.V, .int .i64 k.B, .int .i64 k.E, .slice k.ga k.gn k.gc, .slice k.ha k.hn k.hc, .slice k.sa k.sn k.sc, .slice k.la k.ln k.lc] 29)
    have as_W1 : Hid ((w.alloc (.cells #[.int .i64 k.T, .int .i64 k.V, .int .i64 k.B, .int .i64 k.E, .slice k.ga k.gn k.gc, .slice k.ha k.hn k.hc, .slice k.sa k.sn k.sc, .slice k.la k.ln k.lc] 29)).heap.size = w.heap.size + 1) := hidP (by simp)
    generalize w.alloc (.cells #[.int .i64 k.T, .int .i64 k.V, .int .i64 k.B, .int .i64 k.E, .slice k.ga k.gn k.gc, .slice k.ha k.hn k.hc, .slice k.sa k.sn k.sc, .slice k.la k.ln k.lc] 29) = W1 at *
    have acc_W1 := hidP (ab_W1)
    have sz_W1 : Hid (w.heap.size ≤ W1.heap.size) := hidP ab_W1.size
    clear ab_W1 
    refine (HKo.out _ acc_W1.out).mono ?_
    rintro e w2 ⟨rfl, hb2⟩
    have kb0_w2 := (hb2.cell kbL_W1).trans kb0_W1
    have kb1_w2 := (hb2.cell kbL_W1).trans kb1_W1
    have kb2_w2 := (hb2.cell kbL_W1).trans kb2_W1
    have kb3_w2 := (hb2.cell kbL_W1).trans kb3_W1
    have kb4_w2 := (hb2.cell kbL_W1).trans kb4_W1
    have kb5_w2 := (hb2.cell kbL_W1).trans kb5_W1
    have kb6_w2 := (hb2.cell kbL_W1).trans kb6_W1
    have kb7_w2 := (hb2.cell kbL_W1).trans kb7_W1
    have kbF_w2 : ∀ o, w2.frozen? ⟨w.heap.size, o, none⟩ = false := fun o => (hb2.frozen kbL_W1).trans (kbF_W1 o)
    have kbL_w2 : w.heap.size < w2.heap.size := Nat.lt_of_lt_of_le kbL_W1 hb2.size
    have acc_w2 := hidP (acc_W1.out.trans (hb2.mono acc_W1.out.size))
    have sz_w2 : Hid (W1.heap.size ≤ w2.heap.size) := hidP hb2.size
    clear hb2 kb0_W1 kb1_W1 kb2_W1 kb3_W1 kb4_W1 kb5_W1 kb6_W1 kb7_W1 kbF_W1 kbL_W1 acc_W1
    go_wp2_with fail
    refine bodyPost_ret (v := .tuple #[.int .i64 0, .bool false]) (by simp [results, Try.results8, go_sem]) rfl ⟨rfl, acc_w2.out⟩
  · have g1 : decide (x < k.B) = false := decide_eq_false h1
    have g3 : decide (x > z) = true := decide_eq_true (by omega)
    have g4 : decide (z < x) = true := decide_eq_true (by omega)
    clear hx
    go_enter Try.func8, Try.ntmps8
    go_wp2_with fail
    obtain ⟨kb0_W1, kb1_W1, kb2_W1, kb3_W1, kb4_W1, kb5_W1, kb6_W1, kb7_W1⟩ := box8K w 29 (.int .i64 k.T) (.int .i64 k.V) (.int .i64 k.B) (.int .i64 k.E) (.slice k.ga k.gn k.gc) (.slice k.ha k.hn k.hc) (.slice k.sa k.sn k.sc) (.slice k.la k.ln k.lc)
    have kbF_W1 : ∀ o, (w.alloc (.cells #[.int .i64 k.T, .int .i64 k.V, .int .i64 k.B, .int .i64 k.E, .slice k.ga k.gn k.gc, .slice k.ha k.hn k.hc, .slice k.sa k.sn k.sc, .slice k.la k.ln k.lc] 29)).frozen? ⟨w.heap.size, o, none⟩ = false := fun o => by simp [go_sem]
    have kbL_W1 : w.heap.size < (w.alloc (.cells #[.int .i64 k.T, .int .i64 k.V, .int .i64 k.B, .int .i64 k.E, .slice k.ga k.gn k.gc, .slice k.ha k.hn k.hc, .slice k.sa k.sn k.sc, .slice k.la k.ln k.lc] 29)).heap.size := by simp
    have ab_W1 := alloc_below w (.cells #[.int .i64 k.T, .int .i64 k.V, .int .i64 k.B, .int .i64 k.E, .slice k.ga k.gn k.gc, .slice k.ha k.hn k.hc, .slice k.sa k.sn k.sc, .slice k.la k.ln k.lc] 29)
    have as_W1 : Hid ((w.alloc (.cells #[.int .i64 k.T, .int .i64 k.V, .int .i64 k.B, .int .i64 k.E, .slice k.ga k.gn k.gc, .slice k.ha k.hn k.hc, .slice k.sa k.sn k.sc, .slice k.la k.ln k.lc] 29)).heap.size = w.heap.size + 1) := hidP (by simp)
    generalize w.alloc (.cells #[.int .i64 k.T, .int .i64 k.V, .int .i64 k.B, .int .i64 k.E, .slice k.ga k.gn k.gc, .slice k.ha k.hn k.hc, .slice k.sa k.sn k.sc, .slice k.la k.ln k.lc] 29) = W1 at *
    have acc_W1 := hidP (ab_W1)
    have sz_W1 : Hid (w.heap.size ≤ W1.heap.size) := hidP ab_W1.size
    clear ab_W1 
    refine (HKo.out _ acc_W1.out).mono ?_
    rintro e w2 ⟨rfl, hb2⟩
    have kb0_w2 := (hb2.cell kbL_W1).trans kb0_W1
    have kb1_w2 := (hb2.cell kbL_W1).trans kb1_W1
    have kb2_w2 := (hb2.cell kbL_W1).trans kb2_W1
    have kb3_w2 := (hb2.cell kbL_W1).trans kb3_W1
    have kb4_w2 := (hb2.cell kbL_W1).trans kb4_W1
    have kb5_w2 := (hb2.cell kbL_W1).trans kb5_W1
    have kb6_w2 := (hb2.cell kbL_W1).trans kb6_W1
    have kb7_w2 := (hb2.cell kbL_W1).trans kb7_W1
    have kbF_w2 : ∀ o, w2.frozen? ⟨w.heap.size, o, none⟩ = false := fun o => (hb2.frozen kbL_W1).trans (kbF_W1 o)
    have kbL_w2 : w.heap.size < w2.heap.size := Nat.lt_of_lt_of_le kbL_W1 hb2.size
    have acc_w2 := hidP (acc_W1.out.trans (hb2.mono acc_W1.out.size))
    have sz_w2 : Hid (W1.heap.size ≤ w2.heap.size) := hidP hb2.size
    clear hb2 kb0_W1 kb1_W1 kb2_W1 kb3_W1 kb4_W1 kb5_W1 kb6_W1 kb7_W1 kbF_W1 kbL_W1 acc_W1
    go_wp2_with fail
    refine (HLx.out _).mono ?_
    rintro e w3 ⟨rfl, hb3⟩
    have kb0_w3 := (hb3.cell kbL_w2).trans kb0_w2
    have kb1_w3 := (hb3.cell kbL_w2).trans kb1_w2
    have kb2_w3 := (hb3.cell kbL_w2).trans kb2_w2
    have kb3_w3 := (hb3.cell kbL_w2).trans kb3_w2
    have kb4_w3 := (hb3.cell kbL_w2).trans kb4_w2
    have kb5_w3 := (hb3.cell kbL_w2).trans kb5_w2
    have kb6_w3 := (hb3.cell kbL_w2).trans kb6_w2
    have kb7_w3 := (hb3.cell kbL_w2).trans kb7_w2
    have kbF_w3 : ∀ o, w3.frozen? ⟨w.heap.size, o, none⟩ = false := fun o => (hb3.frozen kbL_w2).trans (kbF_w2 o)
    have kbL_w3 : w.heap.size < w3.heap.size := Nat.lt_of_lt_of_le kbL_w2 hb3.size
    have acc_w3 := hidP (acc_w2.out.trans (hb3.mono acc_w2.out.size))
    have sz_w3 : Hid (w2.heap.size ≤ w3.heap.size) := hidP hb3.size
    clear hb3 kb0_w2 kb1_w2 kb2_w2 kb3_w2 kb4_w2 kb5_w2 kb6_w2 kb7_w2 kbF_w2 kbL_w2 acc_w2
    go_wp2_with fail
    refine bodyPost_ret (v := .tuple #[.int .i64 0, .bool false]) (by simp [results, Try.results8, go_sem]) rfl ⟨rfl, acc_w3.out⟩

end Go.Proofs.Ytlhddiikbfobjaa
