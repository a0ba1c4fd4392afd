/-
  The program's MsgOk of any message.
-/
import Derived.Test.YtgenjjhchnnpnaaDoorV14M
import Derived.Lib.MinMax
namespace Go.Proofs.YtgenjjhchnnpnaaDoor
open Go.ChangeShapes Go.WideShapes Go.ChangeAt Go.RowKit Go.Joins Go.Deep

def inB (n l m : Int) : Bool := decide (l ≤ n) && decide (n ≤ m)
set_option maxHeartbeats 400000 in
theorem isWithin_r (n l m : Int) (r : Bool) (h : inB n l m = r) (w : World) :
    Calls Tryd.prog 19 #[.int .i64 n, .int .i64 l, .int .i64 m] w fun e w' => e = .returned (.bool r) ∧ w = w' := by
  subst h
  unfold inB
  by_cases h : l ≤ n
  · have d1 : decide (l ≤ n) = true := decide_eq_true h
    rw [d1, Bool.true_and]
    go_enter Tryd.func19, Tryd.ntmps19
    go_wp2
    go_ret
    exact ⟨rfl, rfl⟩
  · have d1 : decide (l ≤ n) = false := decide_eq_false h
    rw [d1, Bool.false_and]
    go_enter Tryd.func19, Tryd.ntmps19
    go_wp2
    go_ret
    exact ⟨rfl, rfl⟩
set_option maxHeartbeats 400000 in
theorem isId_r (n : Int) (r : Bool) (h : inB n 1 7 = r) (w : World) :
    Calls Tryd.prog 20 #[.int .i64 n] w fun e w' => e = .returned (.bool r) ∧ w = w' := by
  have H := hidP (fun W => isWithin_r n 1 7 r h W)
  clear h
  go_enter Tryd.func20, Tryd.ntmps20
  go_wp2_with fail
  refine (H.out _).mono ?_
  rintro e w1 ⟨rfl, rfl⟩
  go_wp2_with fail
  go_ret
  exact ⟨rfl, rfl⟩
/-- Is its group as it is named? -/
def gfB (fg : Bool) (gn hn : Nat) (ps bs : List Int) : Bool := if fg = true then grB ps bs else (((gn : Int) == 0) && ((hn : Int) == 0))
set_option maxHeartbeats 1000000 in
theorem groupFits_any (fg : Bool) (ap : Option Addr) (np cp : Nat) (ab : Option Addr) (nb cb : Nat) (ps bs : List Int) (w : World) (hnp : np = ps.length) (hnb : nb = bs.length) (hP : RowG KI w ap ps) (hK : RowG KI w ab bs) (hl : np ≤ 1048576) (hl' : nb ≤ 1048576) :
    Calls Tryd.prog 22 #[.agg #[.slice ap np cp, .slice ab nb cb], .bool fg] w fun e w' => e = .returned (.bool (gfB fg np nb ps bs)) ∧ Below w.heap.size w w' := by
  have HG := hidP (fun W (h : Below w.heap.size w W) => iGroupOk_any ap np cp ab nb cb ps bs W hnp hnb (hP.later h) (hK.later h) hl hl')
  clear hP hK hnp hnb
  cases fg
  · show Calls _ _ _ _ fun e w' => e = .returned (.bool (((np : Int) == 0) && ((nb : Int) == 0))) ∧ _
    clear HG
    cases h0 : ((np : Int) == 0)
    · rw [Bool.false_and]
      go_enter Tryd.func22, Tryd.ntmps22
      go_wp2_with fail
      go_ret
      exact ⟨rfl, alloc_below w _⟩
    · rw [Bool.true_and]
      go_enter Tryd.func22, Tryd.ntmps22
      go_wp2_with fail
      go_ret
      exact ⟨rfl, alloc_below w _⟩
  · show Calls _ _ _ _ fun e w' => e = .returned (.bool (grB ps bs)) ∧ _
    go_enter Tryd.func22, Tryd.ntmps22
    go_wp2_with fail
    refine (HG.out _ (alloc_below w _)).mono ?_
    rintro e w1 ⟨rfl, hb1⟩
    have HB := hidP ((alloc_below w _).trans (hb1.mono (alloc_below w _).size))
    clear hb1
    go_wp2_with fail
    go_ret
    exact ⟨rfl, HB.out⟩

theorem box12 (w : World) (t : TypeId) (x0 x1 x2 x3 x4 x5 x6 x7 x8 x9 x10 x11 : Value) : (w.alloc (.cells #[x0, x1, x2, x3, x4, x5, x6, x7, x8, x9, x10, x11] t)).cell? ⟨w.heap.size, 0, none⟩ = some x0 ∧ (w.alloc (.cells #[x0, x1, x2, x3, x4, x5, x6, x7, x8, x9, x10, x11] t)).cell? ⟨w.heap.size, 1, none⟩ = some x1 ∧ (w.alloc (.cells #[x0, x1, x2, x3, x4, x5, x6, x7, x8, x9, x10, x11] t)).cell? ⟨w.heap.size, 2, none⟩ = some x2 ∧ (w.alloc (.cells #[x0, x1, x2, x3, x4, x5, x6, x7, x8, x9, x10, x11] t)).cell? ⟨w.heap.size, 3, none⟩ = some x3 ∧ (w.alloc (.cells #[x0, x1, x2, x3, x4, x5, x6, x7, x8, x9, x10, x11] t)).cell? ⟨w.heap.size, 4, none⟩ = some x4 ∧ (w.alloc (.cells #[x0, x1, x2, x3, x4, x5, x6, x7, x8, x9, x10, x11] t)).cell? ⟨w.heap.size, 5, none⟩ = some x5 ∧ (w.alloc (.cells #[x0, x1, x2, x3, x4, x5, x6, x7, x8, x9, x10, x11] t)).cell? ⟨w.heap.size, 6, none⟩ = some x6 ∧ (w.alloc (.cells #[x0, x1, x2, x3, x4, x5, x6, x7, x8, x9, x10, x11] t)).cell? ⟨w.heap.size, 7, none⟩ = some x7 ∧ (w.alloc (.cells #[x0, x1, x2, x3, x4, x5, x6, x7, x8, x9, x10, x11] t)).cell? ⟨w.heap.size, 8, none⟩ = some x8 ∧ (w.alloc (.cells #[x0, x1, x2, x3, x4, x5, x6, x7, x8, x9, x10, x11] t)).cell? ⟨w.heap.size, 9, none⟩ = some x9 ∧ (w.alloc (.cells #[x0, x1, x2, x3, x4, x5, x6, x7, x8, x9, x10, x11] t)).cell? ⟨w.heap.size, 10, none⟩ = some x10 ∧ (w.alloc (.cells #[x0, x1, x2, x3, x4, x5, x6, x7, x8, x9, x10, x11] t)).cell? ⟨w.heap.size, 11, none⟩ = some x11 := ⟨by simp [go_sem], by simp [go_sem], by simp [go_sem], by simp [go_sem], by simp [go_sem], by simp [go_sem], by simp [go_sem], by simp [go_sem], by simp [go_sem], by simp [go_sem], by simp [go_sem], by simp [go_sem]⟩
theorem box7 (w : World) (t : TypeId) (x0 x1 x2 x3 x4 x5 x6 : Value) : (w.alloc (.cells #[x0, x1, x2, x3, x4, x5, x6] t)).cell? ⟨w.heap.size, 0, none⟩ = some x0 ∧ (w.alloc (.cells #[x0, x1, x2, x3, x4, x5, x6] t)).cell? ⟨w.heap.size, 1, none⟩ = some x1 ∧ (w.alloc (.cells #[x0, x1, x2, x3, x4, x5, x6] t)).cell? ⟨w.heap.size, 2, none⟩ = some x2 ∧ (w.alloc (.cells #[x0, x1, x2, x3, x4, x5, x6] t)).cell? ⟨w.heap.size, 3, none⟩ = some x3 ∧ (w.alloc (.cells #[x0, x1, x2, x3, x4, x5, x6] t)).cell? ⟨w.heap.size, 4, none⟩ = some x4 ∧ (w.alloc (.cells #[x0, x1, x2, x3, x4, x5, x6] t)).cell? ⟨w.heap.size, 5, none⟩ = some x5 ∧ (w.alloc (.cells #[x0, x1, x2, x3, x4, x5, x6] t)).cell? ⟨w.heap.size, 6, none⟩ = some x6 := ⟨by simp [go_sem], by simp [go_sem], by simp [go_sem], by simp [go_sem], by simp [go_sem], by simp [go_sem], by simp [go_sem]⟩

/-- The kind, who and the term. -/
def aB (K F T M : Int) : Bool := inB K 1 5 && (inB F 1 7 && (inB T 1 7 && inB M 1 1000000))
/-- What a form asks. -/
def fB (m : Mg) (fi fl fe fc fd : Int) (fo fg : Bool) : Bool := ((inB m.I 0 fi && (inB m.L 0 (min fl m.M) && inB m.C 0 fc)) && (decide ((m.en : Int) ≤ fe) && decide ((m.dn : Int) ≤ fd))) && ((!(m.O && !fo)) && ((risE m.L m.es && decide (lasE m.L m.es ≤ m.M)) && gfB fg m.gn m.hn m.ps m.bs))

set_option maxRecDepth 10000 in
set_option maxHeartbeats 8000000 in
theorem iMsg_no (m : Mg) (w : World) (h : aB m.K m.F m.T m.M = false) :
    Calls Tryd.prog 7 #[m.v] w fun e w' => e = .returned (.bool false) ∧ Below w.heap.size w w' := by
  obtain ⟨K, F, T, M, I, L, ea, en, ec, C, O, da, dn, dc, ga, gn, gc, ha, hn, hc, es, ds, ps, bs⟩ := m
  simp only at h
  cases hK : inB K 1 5
  · have H0 := hidP (fun W => isWithin_r K 1 5 false hK W)
    clear h hK
    go_enter Tryd.func7, Tryd.ntmps7
    go_wp2_with fail
    obtain ⟨b0, b1, b2, b3, b4, b5, b6, b7, b8, b9, b10, b11⟩ := box12 w 34 (.int .i64 K) (.int .i64 F) (.int .i64 T) (.int .i64 M) (.int .i64 I) (.int .i64 L) (.slice ea en ec) (.int .i64 C) (.bool O) (.slice da dn dc) (.slice ga gn gc) (.slice ha hn hc)
    have bB := alloc_below w (.cells #[.int .i64 K, .int .i64 F, .int .i64 T, .int .i64 M, .int .i64 I, .int .i64 L, .slice ea en ec, .int .i64 C, .bool O, .slice da dn dc, .slice ga gn gc, .slice ha hn hc] 34)
    have bL : w.heap.size < (w.alloc (.cells #[.int .i64 K, .int .i64 F, .int .i64 T, .int .i64 M, .int .i64 I, .int .i64 L, .slice ea en ec, .int .i64 C, .bool O, .slice da dn dc, .slice ga gn gc, .slice ha hn hc] 34)).heap.size := by simp
    generalize w.alloc (.cells #[.int .i64 K, .int .i64 F, .int .i64 T, .int .i64 M, .int .i64 I, .int .i64 L, .slice ea en ec, .int .i64 C, .bool O, .slice da dn dc, .slice ga gn gc, .slice ha hn hc] 34) = W1 at *
    refine (H0.out _).mono ?_
    rintro e0 w0 ⟨rfl, rfl⟩
    go_wp2_with fail
    go_ret
    exact ⟨rfl, bB⟩
  · skip
    cases hF : inB F 1 7
    · have H0 := hidP (fun W => isWithin_r K 1 5 true hK W)
      have H1 := hidP (fun W => isId_r F false hF W)
      clear h hK hF
      go_enter Tryd.func7, Tryd.ntmps7
      go_wp2_with fail
      obtain ⟨b0, b1, b2, b3, b4, b5, b6, b7, b8, b9, b10, b11⟩ := box12 w 34 (.int .i64 K) (.int .i64 F) (.int .i64 T) (.int .i64 M) (.int .i64 I) (.int .i64 L) (.slice ea en ec) (.int .i64 C) (.bool O) (.slice da dn dc) (.slice ga gn gc) (.slice ha hn hc)
      have bB := alloc_below w (.cells #[.int .i64 K, .int .i64 F, .int .i64 T, .int .i64 M, .int .i64 I, .int .i64 L, .slice ea en ec, .int .i64 C, .bool O, .slice da dn dc, .slice ga gn gc, .slice ha hn hc] 34)
      have bL : w.heap.size < (w.alloc (.cells #[.int .i64 K, .int .i64 F, .int .i64 T, .int .i64 M, .int .i64 I, .int .i64 L, .slice ea en ec, .int .i64 C, .bool O, .slice da dn dc, .slice ga gn gc, .slice ha hn hc] 34)).heap.size := by simp
      generalize w.alloc (.cells #[.int .i64 K, .int .i64 F, .int .i64 T, .int .i64 M, .int .i64 I, .int .i64 L, .slice ea en ec, .int .i64 C, .bool O, .slice da dn dc, .slice ga gn gc, .slice ha hn hc] 34) = W1 at *
      refine (H0.out _).mono ?_
      rintro e0 w0 ⟨rfl, rfl⟩
      go_wp2_with fail
      refine (H1.out _).mono ?_
      rintro e0 w0 ⟨rfl, rfl⟩
      go_wp2_with fail
      go_ret
      exact ⟨rfl, bB⟩
    · skip
      cases hT : inB T 1 7
      · have H0 := hidP (fun W => isWithin_r K 1 5 true hK W)
        have H1 := hidP (fun W => isId_r F true hF W)
        have H2 := hidP (fun W => isId_r T false hT W)
        clear h hK hF hT
        go_enter Tryd.func7, Tryd.ntmps7
        go_wp2_with fail
        obtain ⟨b0, b1, b2, b3, b4, b5, b6, b7, b8, b9, b10, b11⟩ := box12 w 34 (.int .i64 K) (.int .i64 F) (.int .i64 T) (.int .i64 M) (.int .i64 I) (.int .i64 L) (.slice ea en ec) (.int .i64 C) (.bool O) (.slice da dn dc) (.slice ga gn gc) (.slice ha hn hc)
        have bB := alloc_below w (.cells #[.int .i64 K, .int .i64 F, .int .i64 T, .int .i64 M, .int .i64 I, .int .i64 L, .slice ea en ec, .int .i64 C, .bool O, .slice da dn dc, .slice ga gn gc, .slice ha hn hc] 34)
        have bL : w.heap.size < (w.alloc (.cells #[.int .i64 K, .int .i64 F, .int .i64 T, .int .i64 M, .int .i64 I, .int .i64 L, .slice ea en ec, .int .i64 C, .bool O, .slice da dn dc, .slice ga gn gc, .slice ha hn hc] 34)).heap.size := by simp
        generalize w.alloc (.cells #[.int .i64 K, .int .i64 F, .int .i64 T, .int .i64 M, .int .i64 I, .int .i64 L, .slice ea en ec, .int .i64 C, .bool O, .slice da dn dc, .slice ga gn gc, .slice ha hn hc] 34) = W1 at *
        refine (H0.out _).mono ?_
        rintro e0 w0 ⟨rfl, rfl⟩
        go_wp2_with fail
        refine (H1.out _).mono ?_
        rintro e0 w0 ⟨rfl, rfl⟩
        go_wp2_with fail
        refine (H2.out _).mono ?_
        rintro e0 w0 ⟨rfl, rfl⟩
        go_wp2_with fail
        go_ret
        exact ⟨rfl, bB⟩
      · skip
        cases hM : inB M 1 1000000
        · have H0 := hidP (fun W => isWithin_r K 1 5 true hK W)
          have H1 := hidP (fun W => isId_r F true hF W)
          have H2 := hidP (fun W => isId_r T true hT W)
          have H3 := hidP (fun W => isWithin_r M 1 1000000 false hM W)
          clear h hK hF hT hM
          go_enter Tryd.func7, Tryd.ntmps7
          go_wp2_with fail
          obtain ⟨b0, b1, b2, b3, b4, b5, b6, b7, b8, b9, b10, b11⟩ := box12 w 34 (.int .i64 K) (.int .i64 F) (.int .i64 T) (.int .i64 M) (.int .i64 I) (.int .i64 L) (.slice ea en ec) (.int .i64 C) (.bool O) (.slice da dn dc) (.slice ga gn gc) (.slice ha hn hc)
          have bB := alloc_below w (.cells #[.int .i64 K, .int .i64 F, .int .i64 T, .int .i64 M, .int .i64 I, .int .i64 L, .slice ea en ec, .int .i64 C, .bool O, .slice da dn dc, .slice ga gn gc, .slice ha hn hc] 34)
          have bL : w.heap.size < (w.alloc (.cells #[.int .i64 K, .int .i64 F, .int .i64 T, .int .i64 M, .int .i64 I, .int .i64 L, .slice ea en ec, .int .i64 C, .bool O, .slice da dn dc, .slice ga gn gc, .slice ha hn hc] 34)).heap.size := by simp
          generalize w.alloc (.cells #[.int .i64 K, .int .i64 F, .int .i64 T, .int .i64 M, .int .i64 I, .int .i64 L, .slice ea en ec, .int .i64 C, .bool O, .slice da dn dc, .slice ga gn gc, .slice ha hn hc] 34) = W1 at *
          refine (H0.out _).mono ?_
          rintro e0 w0 ⟨rfl, rfl⟩
          go_wp2_with fail
          refine (H1.out _).mono ?_
          rintro e0 w0 ⟨rfl, rfl⟩
          go_wp2_with fail
          refine (H2.out _).mono ?_
          rintro e0 w0 ⟨rfl, rfl⟩
          go_wp2_with fail
          refine (H3.out _).mono ?_
          rintro e0 w0 ⟨rfl, rfl⟩
          go_wp2_with fail
          go_ret
          exact ⟨rfl, bB⟩
        · exact absurd h (by unfold aB; rw [hK, hF, hT, hM]; decide)

set_option maxRecDepth 10000 in
set_option maxHeartbeats 20000000 in
theorem iMsg_form (m : Mg) (k : Nat) (fi fl fe fc fd : Int) (fo fg : Bool) (w : World) (hk : m.K = (k : Int)) (hA : aB m.K m.F m.T m.M = true) (hr : MgR w m) (hs : MgS m)
    (x0 : w.cell? ⟨0, k * 7, none⟩ = some (.int .i64 fi))
    (x1 : w.cell? ⟨0, k * 7 + 1, none⟩ = some (.int .i64 fl))
    (x2 : w.cell? ⟨0, k * 7 + 2, none⟩ = some (.int .i64 fe))
    (x3 : w.cell? ⟨0, k * 7 + 3, none⟩ = some (.int .i64 fc))
    (x4 : w.cell? ⟨0, k * 7 + 4, none⟩ = some (.int .i64 fd))
    (x5 : w.cell? ⟨0, k * 7 + 5, none⟩ = some (.bool fo))
    (x6 : w.cell? ⟨0, k * 7 + 6, none⟩ = some (.bool fg)) :
    Calls Tryd.prog 7 #[m.v] w fun e w' => e = .returned (.bool (fB m fi fl fe fc fd fo fg)) ∧ Below w.heap.size w w' := by
  have HE := hidP (fun W (hb : Below w.heap.size w W) => entriesOk_any m.ea m.en m.ec m.es m.L m.M W hr.he hs.he (hr.re.later hb) (fun e he => (hr.dt e he).later hb))
  have HG := hidP (fun W (hb : Below w.heap.size w W) => groupFits_any fg m.ga m.gn m.gc m.ha m.hn m.hc m.ps m.bs W hr.hg hr.hh (hr.rg.later hb) (hr.rh.later hb) hs.hg hs.hh)
  clear hr hs
  obtain ⟨K, F, T, M, I, L, ea, en, ec, C, O, da, dn, dc, ga, gn, gc, ha, hn, hc, es, ds, ps, bs⟩ := m
  simp only at HE HG hA hk
  subst hk
  unfold aB at hA
  rw [Bool.and_eq_true, Bool.and_eq_true, Bool.and_eq_true] at hA
  obtain ⟨hK, hF, hT, hM⟩ := hA
  have k6 : k ≤ 5 := by unfold inB at hK; simp at hK; omega
  have k7 : (0 : Int) ≤ (k : Int) := by omega
  have k8 : (k : Int) < 6 := by omega
  have H0 := hidP (fun W => isWithin_r (k : Int) 1 5 true hK W)
  have H1 := hidP (fun W => isId_r F true hF W)
  have H2 := hidP (fun W => isId_r T true hT W)
  have H3 := hidP (fun W => isWithin_r M 1 1000000 true hM W)
  clear hK hF hT hM
  have HZ : Hid (0 < w.heap.size) := hidP (World.block_lt_of_cell? w _ x0)
  generalize hfb : fB ⟨(k : Int), F, T, M, I, L, ea, en, ec, C, O, da, dn, dc, ga, gn, gc, ha, hn, hc, es, ds, ps, bs⟩ fi fl fe fc fd fo fg = R
  unfold fB at hfb
  simp only at hfb
  generalize hmn : min fl M = mn at *
  have hmin : ∀ w : World, (Builtin.min_ #[3, 3] 3 #[.int .i64 fl, .int .i64 M]).run Tryd.prog w = .ok (.int .i64 mn) w := fun w => by rw [← hmn]; exact Lib.run_min_ints w _ _ _ _ fl M
  clear hmn
  have wI := fun r (h : inB I 0 fi = r) => hidP (fun W => isWithin_r I 0 fi r h W)
  have wL := fun r (h : inB L 0 mn = r) => hidP (fun W => isWithin_r L 0 mn r h W)
  have wC := fun r (h : inB C 0 fc = r) => hidP (fun W => isWithin_r C 0 fc r h W)
  cases hI : inB I 0 fi
  · cases hE : decide ((en : Int) ≤ fe)
    · have HI := wI false hI
      have hR : R = false := by rw [← hfb, hI, hE]; simp
      subst hR
      clear hfb wI wL wC hI
      clear HE HG
      go_enter Tryd.func7, Tryd.ntmps7
      go_wp2_with fail
      obtain ⟨b0, b1, b2, b3, b4, b5, b6, b7, b8, b9, b10, b11⟩ := box12 w 34 (.int .i64 (k : Int)) (.int .i64 F) (.int .i64 T) (.int .i64 M) (.int .i64 I) (.int .i64 L) (.slice ea en ec) (.int .i64 C) (.bool O) (.slice da dn dc) (.slice ga gn gc) (.slice ha hn hc)
      have bB := alloc_below w (.cells #[.int .i64 (k : Int), .int .i64 F, .int .i64 T, .int .i64 M, .int .i64 I, .int .i64 L, .slice ea en ec, .int .i64 C, .bool O, .slice da dn dc, .slice ga gn gc, .slice ha hn hc] 34)
      have bL : w.heap.size < (w.alloc (.cells #[.int .i64 (k : Int), .int .i64 F, .int .i64 T, .int .i64 M, .int .i64 I, .int .i64 L, .slice ea en ec, .int .i64 C, .bool O, .slice da dn dc, .slice ga gn gc, .slice ha hn hc] 34)).heap.size := by simp
      have y0 := (bB.cell HZ.out).trans x0
      have y1 := (bB.cell HZ.out).trans x1
      have y2 := (bB.cell HZ.out).trans x2
      have y3 := (bB.cell HZ.out).trans x3
      have y4 := (bB.cell HZ.out).trans x4
      have y5 := (bB.cell HZ.out).trans x5
      have y6 := (bB.cell HZ.out).trans x6
      clear x0 x1 x2 x3 x4 x5 x6
      generalize w.alloc (.cells #[.int .i64 (k : Int), .int .i64 F, .int .i64 T, .int .i64 M, .int .i64 I, .int .i64 L, .slice ea en ec, .int .i64 C, .bool O, .slice da dn dc, .slice ga gn gc, .slice ha hn hc] 34) = W1 at *
      refine (H0.out _).mono ?_
      rintro e0 w0 ⟨rfl, rfl⟩
      go_wp2_with fail
      refine (H1.out _).mono ?_
      rintro e0 w0 ⟨rfl, rfl⟩
      go_wp2_with fail
      refine (H2.out _).mono ?_
      rintro e0 w0 ⟨rfl, rfl⟩
      go_wp2_with fail
      refine (H3.out _).mono ?_
      rintro e0 w0 ⟨rfl, rfl⟩
      go_wp2_with fail
      obtain ⟨c0, c1, c2, c3, c4, c5, c6⟩ := box7 W1 53 (.int .i64 fi) (.int .i64 fl) (.int .i64 fe) (.int .i64 fc) (.int .i64 fd) (.bool fo) (.bool fg)
      have cB := alloc_below W1 (.cells #[.int .i64 fi, .int .i64 fl, .int .i64 fe, .int .i64 fc, .int .i64 fd, .bool fo, .bool fg] 53)
      have cL : W1.heap.size < (W1.alloc (.cells #[.int .i64 fi, .int .i64 fl, .int .i64 fe, .int .i64 fc, .int .i64 fd, .bool fo, .bool fg] 53)).heap.size := by simp
      have cT : w.heap.size < (W1.alloc (.cells #[.int .i64 fi, .int .i64 fl, .int .i64 fe, .int .i64 fc, .int .i64 fd, .bool fo, .bool fg] 53)).heap.size := by simp; omega
      have d0 := (cB.cell bL).trans b0
      have d1 := (cB.cell bL).trans b1
      have d2 := (cB.cell bL).trans b2
      have d3 := (cB.cell bL).trans b3
      have d4 := (cB.cell bL).trans b4
      have d5 := (cB.cell bL).trans b5
      have d6 := (cB.cell bL).trans b6
      have d7 := (cB.cell bL).trans b7
      have d8 := (cB.cell bL).trans b8
      have d9 := (cB.cell bL).trans b9
      have d10 := (cB.cell bL).trans b10
      have d11 := (cB.cell bL).trans b11
      have HW := hidP (bB.trans (cB.mono bB.size))
      clear b0 b1 b2 b3 b4 b5 b6 b7 b8 b9 b10 b11 y0 y1 y2 y3 y4 y5 y6 cB
      generalize W1.alloc (.cells #[.int .i64 fi, .int .i64 fl, .int .i64 fe, .int .i64 fc, .int .i64 fd, .bool fo, .bool fg] 53) = W2 at *
      refine (HI.out _).mono ?_
      rintro e0 w0 ⟨rfl, rfl⟩
      go_wp2_with fail
      go_ret
      exact ⟨rfl, HW.out⟩
    · cases hD : decide ((dn : Int) ≤ fd)
      · have HI := wI false hI
        have hR : R = false := by rw [← hfb, hI, hE, hD]; simp
        subst hR
        clear hfb wI wL wC hI
        clear HE HG
        go_enter Tryd.func7, Tryd.ntmps7
        go_wp2_with fail
        obtain ⟨b0, b1, b2, b3, b4, b5, b6, b7, b8, b9, b10, b11⟩ := box12 w 34 (.int .i64 (k : Int)) (.int .i64 F) (.int .i64 T) (.int .i64 M) (.int .i64 I) (.int .i64 L) (.slice ea en ec) (.int .i64 C) (.bool O) (.slice da dn dc) (.slice ga gn gc) (.slice ha hn hc)
        have bB := alloc_below w (.cells #[.int .i64 (k : Int), .int .i64 F, .int .i64 T, .int .i64 M, .int .i64 I, .int .i64 L, .slice ea en ec, .int .i64 C, .bool O, .slice da dn dc, .slice ga gn gc, .slice ha hn hc] 34)
        have bL : w.heap.size < (w.alloc (.cells #[.int .i64 (k : Int), .int .i64 F, .int .i64 T, .int .i64 M, .int .i64 I, .int .i64 L, .slice ea en ec, .int .i64 C, .bool O, .slice da dn dc, .slice ga gn gc, .slice ha hn hc] 34)).heap.size := by simp
        have y0 := (bB.cell HZ.out).trans x0
        have y1 := (bB.cell HZ.out).trans x1
        have y2 := (bB.cell HZ.out).trans x2
        have y3 := (bB.cell HZ.out).trans x3
        have y4 := (bB.cell HZ.out).trans x4
        have y5 := (bB.cell HZ.out).trans x5
        have y6 := (bB.cell HZ.out).trans x6
        clear x0 x1 x2 x3 x4 x5 x6
        generalize w.alloc (.cells #[.int .i64 (k : Int), .int .i64 F, .int .i64 T, .int .i64 M, .int .i64 I, .int .i64 L, .slice ea en ec, .int .i64 C, .bool O, .slice da dn dc, .slice ga gn gc, .slice ha hn hc] 34) = W1 at *
        refine (H0.out _).mono ?_
        rintro e0 w0 ⟨rfl, rfl⟩
        go_wp2_with fail
        refine (H1.out _).mono ?_
        rintro e0 w0 ⟨rfl, rfl⟩
        go_wp2_with fail
        refine (H2.out _).mono ?_
        rintro e0 w0 ⟨rfl, rfl⟩
        go_wp2_with fail
        refine (H3.out _).mono ?_
        rintro e0 w0 ⟨rfl, rfl⟩
        go_wp2_with fail
        obtain ⟨c0, c1, c2, c3, c4, c5, c6⟩ := box7 W1 53 (.int .i64 fi) (.int .i64 fl) (.int .i64 fe) (.int .i64 fc) (.int .i64 fd) (.bool fo) (.bool fg)
        have cB := alloc_below W1 (.cells #[.int .i64 fi, .int .i64 fl, .int .i64 fe, .int .i64 fc, .int .i64 fd, .bool fo, .bool fg] 53)
        have cL : W1.heap.size < (W1.alloc (.cells #[.int .i64 fi, .int .i64 fl, .int .i64 fe, .int .i64 fc, .int .i64 fd, .bool fo, .bool fg] 53)).heap.size := by simp
        have cT : w.heap.size < (W1.alloc (.cells #[.int .i64 fi, .int .i64 fl, .int .i64 fe, .int .i64 fc, .int .i64 fd, .bool fo, .bool fg] 53)).heap.size := by simp; omega
        have d0 := (cB.cell bL).trans b0
        have d1 := (cB.cell bL).trans b1
        have d2 := (cB.cell bL).trans b2
        have d3 := (cB.cell bL).trans b3
        have d4 := (cB.cell bL).trans b4
        have d5 := (cB.cell bL).trans b5
        have d6 := (cB.cell bL).trans b6
        have d7 := (cB.cell bL).trans b7
        have d8 := (cB.cell bL).trans b8
        have d9 := (cB.cell bL).trans b9
        have d10 := (cB.cell bL).trans b10
        have d11 := (cB.cell bL).trans b11
        have HW := hidP (bB.trans (cB.mono bB.size))
        clear b0 b1 b2 b3 b4 b5 b6 b7 b8 b9 b10 b11 y0 y1 y2 y3 y4 y5 y6 cB
        generalize W1.alloc (.cells #[.int .i64 fi, .int .i64 fl, .int .i64 fe, .int .i64 fc, .int .i64 fd, .bool fo, .bool fg] 53) = W2 at *
        refine (HI.out _).mono ?_
        rintro e0 w0 ⟨rfl, rfl⟩
        go_wp2_with fail
        go_ret
        exact ⟨rfl, HW.out⟩
      · have HI := wI false hI
        have hR : R = false := by rw [← hfb, hI, hE, hD]; simp
        subst hR
        clear hfb wI wL wC hI
        clear HE HG
        go_enter Tryd.func7, Tryd.ntmps7
        go_wp2_with fail
        obtain ⟨b0, b1, b2, b3, b4, b5, b6, b7, b8, b9, b10, b11⟩ := box12 w 34 (.int .i64 (k : Int)) (.int .i64 F) (.int .i64 T) (.int .i64 M) (.int .i64 I) (.int .i64 L) (.slice ea en ec) (.int .i64 C) (.bool O) (.slice da dn dc) (.slice ga gn gc) (.slice ha hn hc)
        have bB := alloc_below w (.cells #[.int .i64 (k : Int), .int .i64 F, .int .i64 T, .int .i64 M, .int .i64 I, .int .i64 L, .slice ea en ec, .int .i64 C, .bool O, .slice da dn dc, .slice ga gn gc, .slice ha hn hc] 34)
        have bL : w.heap.size < (w.alloc (.cells #[.int .i64 (k : Int), .int .i64 F, .int .i64 T, .int .i64 M, .int .i64 I, .int .i64 L, .slice ea en ec, .int .i64 C, .bool O, .slice da dn dc, .slice ga gn gc, .slice ha hn hc] 34)).heap.size := by simp
        have y0 := (bB.cell HZ.out).trans x0
        have y1 := (bB.cell HZ.out).trans x1
        have y2 := (bB.cell HZ.out).trans x2
        have y3 := (bB.cell HZ.out).trans x3
        have y4 := (bB.cell HZ.out).trans x4
        have y5 := (bB.cell HZ.out).trans x5
        have y6 := (bB.cell HZ.out).trans x6
        clear x0 x1 x2 x3 x4 x5 x6
        generalize w.alloc (.cells #[.int .i64 (k : Int), .int .i64 F, .int .i64 T, .int .i64 M, .int .i64 I, .int .i64 L, .slice ea en ec, .int .i64 C, .bool O, .slice da dn dc, .slice ga gn gc, .slice ha hn hc] 34) = W1 at *
        refine (H0.out _).mono ?_
        rintro e0 w0 ⟨rfl, rfl⟩
        go_wp2_with fail
        refine (H1.out _).mono ?_
        rintro e0 w0 ⟨rfl, rfl⟩
        go_wp2_with fail
        refine (H2.out _).mono ?_
        rintro e0 w0 ⟨rfl, rfl⟩
        go_wp2_with fail
        refine (H3.out _).mono ?_
        rintro e0 w0 ⟨rfl, rfl⟩
        go_wp2_with fail
        obtain ⟨c0, c1, c2, c3, c4, c5, c6⟩ := box7 W1 53 (.int .i64 fi) (.int .i64 fl) (.int .i64 fe) (.int .i64 fc) (.int .i64 fd) (.bool fo) (.bool fg)
        have cB := alloc_below W1 (.cells #[.int .i64 fi, .int .i64 fl, .int .i64 fe, .int .i64 fc, .int .i64 fd, .bool fo, .bool fg] 53)
        have cL : W1.heap.size < (W1.alloc (.cells #[.int .i64 fi, .int .i64 fl, .int .i64 fe, .int .i64 fc, .int .i64 fd, .bool fo, .bool fg] 53)).heap.size := by simp
        have cT : w.heap.size < (W1.alloc (.cells #[.int .i64 fi, .int .i64 fl, .int .i64 fe, .int .i64 fc, .int .i64 fd, .bool fo, .bool fg] 53)).heap.size := by simp; omega
        have d0 := (cB.cell bL).trans b0
        have d1 := (cB.cell bL).trans b1
        have d2 := (cB.cell bL).trans b2
        have d3 := (cB.cell bL).trans b3
        have d4 := (cB.cell bL).trans b4
        have d5 := (cB.cell bL).trans b5
        have d6 := (cB.cell bL).trans b6
        have d7 := (cB.cell bL).trans b7
        have d8 := (cB.cell bL).trans b8
        have d9 := (cB.cell bL).trans b9
        have d10 := (cB.cell bL).trans b10
        have d11 := (cB.cell bL).trans b11
        have HW := hidP (bB.trans (cB.mono bB.size))
        clear b0 b1 b2 b3 b4 b5 b6 b7 b8 b9 b10 b11 y0 y1 y2 y3 y4 y5 y6 cB
        generalize W1.alloc (.cells #[.int .i64 fi, .int .i64 fl, .int .i64 fe, .int .i64 fc, .int .i64 fd, .bool fo, .bool fg] 53) = W2 at *
        refine (HI.out _).mono ?_
        rintro e0 w0 ⟨rfl, rfl⟩
        go_wp2_with fail
        go_ret
        exact ⟨rfl, HW.out⟩
  · cases hL : inB L 0 mn
    · cases hE : decide ((en : Int) ≤ fe)
      · have HI := wI true hI
        have HL := wL false hL
        have hR : R = false := by rw [← hfb, hI, hL, hE]; simp
        subst hR
        clear hfb wI wL wC hI hL
        clear HE HG
        go_enter Tryd.func7, Tryd.ntmps7
        go_wp2_with fail
        obtain ⟨b0, b1, b2, b3, b4, b5, b6, b7, b8, b9, b10, b11⟩ := box12 w 34 (.int .i64 (k : Int)) (.int .i64 F) (.int .i64 T) (.int .i64 M) (.int .i64 I) (.int .i64 L) (.slice ea en ec) (.int .i64 C) (.bool O) (.slice da dn dc) (.slice ga gn gc) (.slice ha hn hc)
        have bB := alloc_below w (.cells #[.int .i64 (k : Int), .int .i64 F, .int .i64 T, .int .i64 M, .int .i64 I, .int .i64 L, .slice ea en ec, .int .i64 C, .bool O, .slice da dn dc, .slice ga gn gc, .slice ha hn hc] 34)
        have bL : w.heap.size < (w.alloc (.cells #[.int .i64 (k : Int), .int .i64 F, .int .i64 T, .int .i64 M, .int .i64 I, .int .i64 L, .slice ea en ec, .int .i64 C, .bool O, .slice da dn dc, .slice ga gn gc, .slice ha hn hc] 34)).heap.size := by simp
        have y0 := (bB.cell HZ.out).trans x0
        have y1 := (bB.cell HZ.out).trans x1
        have y2 := (bB.cell HZ.out).trans x2
        have y3 := (bB.cell HZ.out).trans x3
        have y4 := (bB.cell HZ.out).trans x4
        have y5 := (bB.cell HZ.out).trans x5
        have y6 := (bB.cell HZ.out).trans x6
        clear x0 x1 x2 x3 x4 x5 x6
        generalize w.alloc (.cells #[.int .i64 (k : Int), .int .i64 F, .int .i64 T, .int .i64 M, .int .i64 I, .int .i64 L, .slice ea en ec, .int .i64 C, .bool O, .slice da dn dc, .slice ga gn gc, .slice ha hn hc] 34) = W1 at *
        refine (H0.out _).mono ?_
        rintro e0 w0 ⟨rfl, rfl⟩
        go_wp2_with fail
        refine (H1.out _).mono ?_
        rintro e0 w0 ⟨rfl, rfl⟩
        go_wp2_with fail
        refine (H2.out _).mono ?_
        rintro e0 w0 ⟨rfl, rfl⟩
        go_wp2_with fail
        refine (H3.out _).mono ?_
        rintro e0 w0 ⟨rfl, rfl⟩
        go_wp2_with fail
        obtain ⟨c0, c1, c2, c3, c4, c5, c6⟩ := box7 W1 53 (.int .i64 fi) (.int .i64 fl) (.int .i64 fe) (.int .i64 fc) (.int .i64 fd) (.bool fo) (.bool fg)
        have cB := alloc_below W1 (.cells #[.int .i64 fi, .int .i64 fl, .int .i64 fe, .int .i64 fc, .int .i64 fd, .bool fo, .bool fg] 53)
        have cL : W1.heap.size < (W1.alloc (.cells #[.int .i64 fi, .int .i64 fl, .int .i64 fe, .int .i64 fc, .int .i64 fd, .bool fo, .bool fg] 53)).heap.size := by simp
        have cT : w.heap.size < (W1.alloc (.cells #[.int .i64 fi, .int .i64 fl, .int .i64 fe, .int .i64 fc, .int .i64 fd, .bool fo, .bool fg] 53)).heap.size := by simp; omega
        have d0 := (cB.cell bL).trans b0
        have d1 := (cB.cell bL).trans b1
        have d2 := (cB.cell bL).trans b2
        have d3 := (cB.cell bL).trans b3
        have d4 := (cB.cell bL).trans b4
        have d5 := (cB.cell bL).trans b5
        have d6 := (cB.cell bL).trans b6
        have d7 := (cB.cell bL).trans b7
        have d8 := (cB.cell bL).trans b8
        have d9 := (cB.cell bL).trans b9
        have d10 := (cB.cell bL).trans b10
        have d11 := (cB.cell bL).trans b11
        have HW := hidP (bB.trans (cB.mono bB.size))
        clear b0 b1 b2 b3 b4 b5 b6 b7 b8 b9 b10 b11 y0 y1 y2 y3 y4 y5 y6 cB
        generalize W1.alloc (.cells #[.int .i64 fi, .int .i64 fl, .int .i64 fe, .int .i64 fc, .int .i64 fd, .bool fo, .bool fg] 53) = W2 at *
        refine (HI.out _).mono ?_
        rintro e0 w0 ⟨rfl, rfl⟩
        go_wp2_with fail
        refine (HL.out _).mono ?_
        rintro e0 w0 ⟨rfl, rfl⟩
        go_wp2_with fail
        go_ret
        exact ⟨rfl, HW.out⟩
      · cases hD : decide ((dn : Int) ≤ fd)
        · have HI := wI true hI
          have HL := wL false hL
          have hR : R = false := by rw [← hfb, hI, hL, hE, hD]; simp
          subst hR
          clear hfb wI wL wC hI hL
          clear HE HG
          go_enter Tryd.func7, Tryd.ntmps7
          go_wp2_with fail
          obtain ⟨b0, b1, b2, b3, b4, b5, b6, b7, b8, b9, b10, b11⟩ := box12 w 34 (.int .i64 (k : Int)) (.int .i64 F) (.int .i64 T) (.int .i64 M) (.int .i64 I) (.int .i64 L) (.slice ea en ec) (.int .i64 C) (.bool O) (.slice da dn dc) (.slice ga gn gc) (.slice ha hn hc)
          have bB := alloc_below w (.cells #[.int .i64 (k : Int), .int .i64 F, .int .i64 T, .int .i64 M, .int .i64 I, .int .i64 L, .slice ea en ec, .int .i64 C, .bool O, .slice da dn dc, .slice ga gn gc, .slice ha hn hc] 34)
          have bL : w.heap.size < (w.alloc (.cells #[.int .i64 (k : Int), .int .i64 F, .int .i64 T, .int .i64 M, .int .i64 I, .int .i64 L, .slice ea en ec, .int .i64 C, .bool O, .slice da dn dc, .slice ga gn gc, .slice ha hn hc] 34)).heap.size := by simp
          have y0 := (bB.cell HZ.out).trans x0
          have y1 := (bB.cell HZ.out).trans x1
          have y2 := (bB.cell HZ.out).trans x2
          have y3 := (bB.cell HZ.out).trans x3
          have y4 := (bB.cell HZ.out).trans x4
          have y5 := (bB.cell HZ.out).trans x5
          have y6 := (bB.cell HZ.out).trans x6
          clear x0 x1 x2 x3 x4 x5 x6
          generalize w.alloc (.cells #[.int .i64 (k : Int), .int .i64 F, .int .i64 T, .int .i64 M, .int .i64 I, .int .i64 L, .slice ea en ec, .int .i64 C, .bool O, .slice da dn dc, .slice ga gn gc, .slice ha hn hc] 34) = W1 at *
          refine (H0.out _).mono ?_
          rintro e0 w0 ⟨rfl, rfl⟩
          go_wp2_with fail
          refine (H1.out _).mono ?_
          rintro e0 w0 ⟨rfl, rfl⟩
          go_wp2_with fail
          refine (H2.out _).mono ?_
          rintro e0 w0 ⟨rfl, rfl⟩
          go_wp2_with fail
          refine (H3.out _).mono ?_
          rintro e0 w0 ⟨rfl, rfl⟩
          go_wp2_with fail
          obtain ⟨c0, c1, c2, c3, c4, c5, c6⟩ := box7 W1 53 (.int .i64 fi) (.int .i64 fl) (.int .i64 fe) (.int .i64 fc) (.int .i64 fd) (.bool fo) (.bool fg)
          have cB := alloc_below W1 (.cells #[.int .i64 fi, .int .i64 fl, .int .i64 fe, .int .i64 fc, .int .i64 fd, .bool fo, .bool fg] 53)
          have cL : W1.heap.size < (W1.alloc (.cells #[.int .i64 fi, .int .i64 fl, .int .i64 fe, .int .i64 fc, .int .i64 fd, .bool fo, .bool fg] 53)).heap.size := by simp
          have cT : w.heap.size < (W1.alloc (.cells #[.int .i64 fi, .int .i64 fl, .int .i64 fe, .int .i64 fc, .int .i64 fd, .bool fo, .bool fg] 53)).heap.size := by simp; omega
          have d0 := (cB.cell bL).trans b0
          have d1 := (cB.cell bL).trans b1
          have d2 := (cB.cell bL).trans b2
          have d3 := (cB.cell bL).trans b3
          have d4 := (cB.cell bL).trans b4
          have d5 := (cB.cell bL).trans b5
          have d6 := (cB.cell bL).trans b6
          have d7 := (cB.cell bL).trans b7
          have d8 := (cB.cell bL).trans b8
          have d9 := (cB.cell bL).trans b9
          have d10 := (cB.cell bL).trans b10
          have d11 := (cB.cell bL).trans b11
          have HW := hidP (bB.trans (cB.mono bB.size))
          clear b0 b1 b2 b3 b4 b5 b6 b7 b8 b9 b10 b11 y0 y1 y2 y3 y4 y5 y6 cB
          generalize W1.alloc (.cells #[.int .i64 fi, .int .i64 fl, .int .i64 fe, .int .i64 fc, .int .i64 fd, .bool fo, .bool fg] 53) = W2 at *
          refine (HI.out _).mono ?_
          rintro e0 w0 ⟨rfl, rfl⟩
          go_wp2_with fail
          refine (HL.out _).mono ?_
          rintro e0 w0 ⟨rfl, rfl⟩
          go_wp2_with fail
          go_ret
          exact ⟨rfl, HW.out⟩
        · have HI := wI true hI
          have HL := wL false hL
          have hR : R = false := by rw [← hfb, hI, hL, hE, hD]; simp
          subst hR
          clear hfb wI wL wC hI hL
          clear HE HG
          go_enter Tryd.func7, Tryd.ntmps7
          go_wp2_with fail
          obtain ⟨b0, b1, b2, b3, b4, b5, b6, b7, b8, b9, b10, b11⟩ := box12 w 34 (.int .i64 (k : Int)) (.int .i64 F) (.int .i64 T) (.int .i64 M) (.int .i64 I) (.int .i64 L) (.slice ea en ec) (.int .i64 C) (.bool O) (.slice da dn dc) (.slice ga gn gc) (.slice ha hn hc)
          have bB := alloc_below w (.cells #[.int .i64 (k : Int), .int .i64 F, .int .i64 T, .int .i64 M, .int .i64 I, .int .i64 L, .slice ea en ec, .int .i64 C, .bool O, .slice da dn dc, .slice ga gn gc, .slice ha hn hc] 34)
          have bL : w.heap.size < (w.alloc (.cells #[.int .i64 (k : Int), .int .i64 F, .int .i64 T, .int .i64 M, .int .i64 I, .int .i64 L, .slice ea en ec, .int .i64 C, .bool O, .slice da dn dc, .slice ga gn gc, .slice ha hn hc] 34)).heap.size := by simp
          have y0 := (bB.cell HZ.out).trans x0
          have y1 := (bB.cell HZ.out).trans x1
          have y2 := (bB.cell HZ.out).trans x2
          have y3 := (bB.cell HZ.out).trans x3
          have y4 := (bB.cell HZ.out).trans x4
          have y5 := (bB.cell HZ.out).trans x5
          have y6 := (bB.cell HZ.out).trans x6
          clear x0 x1 x2 x3 x4 x5 x6
          generalize w.alloc (.cells #[.int .i64 (k : Int), .int .i64 F, .int .i64 T, .int .i64 M, .int .i64 I, .int .i64 L, .slice ea en ec, .int .i64 C, .bool O, .slice da dn dc, .slice ga gn gc, .slice ha hn hc] 34) = W1 at *
          refine (H0.out _).mono ?_
          rintro e0 w0 ⟨rfl, rfl⟩
          go_wp2_with fail
          refine (H1.out _).mono ?_
          rintro e0 w0 ⟨rfl, rfl⟩
          go_wp2_with fail
          refine (H2.out _).mono ?_
          rintro e0 w0 ⟨rfl, rfl⟩
          go_wp2_with fail
          refine (H3.out _).mono ?_
          rintro e0 w0 ⟨rfl, rfl⟩
          go_wp2_with fail
          obtain ⟨c0, c1, c2, c3, c4, c5, c6⟩ := box7 W1 53 (.int .i64 fi) (.int .i64 fl) (.int .i64 fe) (.int .i64 fc) (.int .i64 fd) (.bool fo) (.bool fg)
          have cB := alloc_below W1 (.cells #[.int .i64 fi, .int .i64 fl, .int .i64 fe, .int .i64 fc, .int .i64 fd, .bool fo, .bool fg] 53)
          have cL : W1.heap.size < (W1.alloc (.cells #[.int .i64 fi, .int .i64 fl, .int .i64 fe, .int .i64 fc, .int .i64 fd, .bool fo, .bool fg] 53)).heap.size := by simp
          have cT : w.heap.size < (W1.alloc (.cells #[.int .i64 fi, .int .i64 fl, .int .i64 fe, .int .i64 fc, .int .i64 fd, .bool fo, .bool fg] 53)).heap.size := by simp; omega
          have d0 := (cB.cell bL).trans b0
          have d1 := (cB.cell bL).trans b1
          have d2 := (cB.cell bL).trans b2
          have d3 := (cB.cell bL).trans b3
          have d4 := (cB.cell bL).trans b4
          have d5 := (cB.cell bL).trans b5
          have d6 := (cB.cell bL).trans b6
          have d7 := (cB.cell bL).trans b7
          have d8 := (cB.cell bL).trans b8
          have d9 := (cB.cell bL).trans b9
          have d10 := (cB.cell bL).trans b10
          have d11 := (cB.cell bL).trans b11
          have HW := hidP (bB.trans (cB.mono bB.size))
          clear b0 b1 b2 b3 b4 b5 b6 b7 b8 b9 b10 b11 y0 y1 y2 y3 y4 y5 y6 cB
          generalize W1.alloc (.cells #[.int .i64 fi, .int .i64 fl, .int .i64 fe, .int .i64 fc, .int .i64 fd, .bool fo, .bool fg] 53) = W2 at *
          refine (HI.out _).mono ?_
          rintro e0 w0 ⟨rfl, rfl⟩
          go_wp2_with fail
          refine (HL.out _).mono ?_
          rintro e0 w0 ⟨rfl, rfl⟩
          go_wp2_with fail
          go_ret
          exact ⟨rfl, HW.out⟩
    · cases hC : inB C 0 fc
      · cases hE : decide ((en : Int) ≤ fe)
        · have HI := wI true hI
          have HL := wL true hL
          have HC := wC false hC
          have hR : R = false := by rw [← hfb, hI, hL, hC, hE]; simp
          subst hR
          clear hfb wI wL wC hI hL hC
          clear HE HG
          go_enter Tryd.func7, Tryd.ntmps7
          go_wp2_with fail
          obtain ⟨b0, b1, b2, b3, b4, b5, b6, b7, b8, b9, b10, b11⟩ := box12 w 34 (.int .i64 (k : Int)) (.int .i64 F) (.int .i64 T) (.int .i64 M) (.int .i64 I) (.int .i64 L) (.slice ea en ec) (.int .i64 C) (.bool O) (.slice da dn dc) (.slice ga gn gc) (.slice ha hn hc)
          have bB := alloc_below w (.cells #[.int .i64 (k : Int), .int .i64 F, .int .i64 T, .int .i64 M, .int .i64 I, .int .i64 L, .slice ea en ec, .int .i64 C, .bool O, .slice da dn dc, .slice ga gn gc, .slice ha hn hc] 34)
          have bL : w.heap.size < (w.alloc (.cells #[.int .i64 (k : Int), .int .i64 F, .int .i64 T, .int .i64 M, .int .i64 I, .int .i64 L, .slice ea en ec, .int .i64 C, .bool O, .slice da dn dc, .slice ga gn gc, .slice ha hn hc] 34)).heap.size := by simp
          have y0 := (bB.cell HZ.out).trans x0
          have y1 := (bB.cell HZ.out).trans x1
          have y2 := (bB.cell HZ.out).trans x2
          have y3 := (bB.cell HZ.out).trans x3
          have y4 := (bB.cell HZ.out).trans x4
          have y5 := (bB.cell HZ.out).trans x5
          have y6 := (bB.cell HZ.out).trans x6
          clear x0 x1 x2 x3 x4 x5 x6
          generalize w.alloc (.cells #[.int .i64 (k : Int), .int .i64 F, .int .i64 T, .int .i64 M, .int .i64 I, .int .i64 L, .slice ea en ec, .int .i64 C, .bool O, .slice da dn dc, .slice ga gn gc, .slice ha hn hc] 34) = W1 at *
          refine (H0.out _).mono ?_
          rintro e0 w0 ⟨rfl, rfl⟩
          go_wp2_with fail
          refine (H1.out _).mono ?_
          rintro e0 w0 ⟨rfl, rfl⟩
          go_wp2_with fail
          refine (H2.out _).mono ?_
          rintro e0 w0 ⟨rfl, rfl⟩
          go_wp2_with fail
          refine (H3.out _).mono ?_
          rintro e0 w0 ⟨rfl, rfl⟩
          go_wp2_with fail
          obtain ⟨c0, c1, c2, c3, c4, c5, c6⟩ := box7 W1 53 (.int .i64 fi) (.int .i64 fl) (.int .i64 fe) (.int .i64 fc) (.int .i64 fd) (.bool fo) (.bool fg)
          have cB := alloc_below W1 (.cells #[.int .i64 fi, .int .i64 fl, .int .i64 fe, .int .i64 fc, .int .i64 fd, .bool fo, .bool fg] 53)
          have cL : W1.heap.size < (W1.alloc (.cells #[.int .i64 fi, .int .i64 fl, .int .i64 fe, .int .i64 fc, .int .i64 fd, .bool fo, .bool fg] 53)).heap.size := by simp
          have cT : w.heap.size < (W1.alloc (.cells #[.int .i64 fi, .int .i64 fl, .int .i64 fe, .int .i64 fc, .int .i64 fd, .bool fo, .bool fg] 53)).heap.size := by simp; omega
          have d0 := (cB.cell bL).trans b0
          have d1 := (cB.cell bL).trans b1
          have d2 := (cB.cell bL).trans b2
          have d3 := (cB.cell bL).trans b3
          have d4 := (cB.cell bL).trans b4
          have d5 := (cB.cell bL).trans b5
          have d6 := (cB.cell bL).trans b6
          have d7 := (cB.cell bL).trans b7
          have d8 := (cB.cell bL).trans b8
          have d9 := (cB.cell bL).trans b9
          have d10 := (cB.cell bL).trans b10
          have d11 := (cB.cell bL).trans b11
          have HW := hidP (bB.trans (cB.mono bB.size))
          clear b0 b1 b2 b3 b4 b5 b6 b7 b8 b9 b10 b11 y0 y1 y2 y3 y4 y5 y6 cB
          generalize W1.alloc (.cells #[.int .i64 fi, .int .i64 fl, .int .i64 fe, .int .i64 fc, .int .i64 fd, .bool fo, .bool fg] 53) = W2 at *
          refine (HI.out _).mono ?_
          rintro e0 w0 ⟨rfl, rfl⟩
          go_wp2_with fail
          refine (HL.out _).mono ?_
          rintro e0 w0 ⟨rfl, rfl⟩
          go_wp2_with fail
          refine (HC.out _).mono ?_
          rintro e0 w0 ⟨rfl, rfl⟩
          go_wp2_with fail
          go_ret
          exact ⟨rfl, HW.out⟩
        · cases hD : decide ((dn : Int) ≤ fd)
          · have HI := wI true hI
            have HL := wL true hL
            have HC := wC false hC
            have hR : R = false := by rw [← hfb, hI, hL, hC, hE, hD]; simp
            subst hR
            clear hfb wI wL wC hI hL hC
            clear HE HG
            go_enter Tryd.func7, Tryd.ntmps7
            go_wp2_with fail
            obtain ⟨b0, b1, b2, b3, b4, b5, b6, b7, b8, b9, b10, b11⟩ := box12 w 34 (.int .i64 (k : Int)) (.int .i64 F) (.int .i64 T) (.int .i64 M) (.int .i64 I) (.int .i64 L) (.slice ea en ec) (.int .i64 C) (.bool O) (.slice da dn dc) (.slice ga gn gc) (.slice ha hn hc)
            have bB := alloc_below w (.cells #[.int .i64 (k : Int), .int .i64 F, .int .i64 T, .int .i64 M, .int .i64 I, .int .i64 L, .slice ea en ec, .int .i64 C, .bool O, .slice da dn dc, .slice ga gn gc, .slice ha hn hc] 34)
            have bL : w.heap.size < (w.alloc (.cells #[.int .i64 (k : Int), .int .i64 F, .int .i64 T, .int .i64 M, .int .i64 I, .int .i64 L, .slice ea en ec, .int .i64 C, .bool O, .slice da dn dc, .slice ga gn gc, .slice ha hn hc] 34)).heap.size := by simp
            have y0 := (bB.cell HZ.out).trans x0
            have y1 := (bB.cell HZ.out).trans x1
            have y2 := (bB.cell HZ.out).trans x2
            have y3 := (bB.cell HZ.out).trans x3
            have y4 := (bB.cell HZ.out).trans x4
            have y5 := (bB.cell HZ.out).trans x5
            have y6 := (bB.cell HZ.out).trans x6
            clear x0 x1 x2 x3 x4 x5 x6
            generalize w.alloc (.cells #[.int .i64 (k : Int), .int .i64 F, .int .i64 T, .int .i64 M, .int .i64 I, .int .i64 L, .slice ea en ec, .int .i64 C, .bool O, .slice da dn dc, .slice ga gn gc, .slice ha hn hc] 34) = W1 at *
            refine (H0.out _).mono ?_
            rintro e0 w0 ⟨rfl, rfl⟩
            go_wp2_with fail
            refine (H1.out _).mono ?_
            rintro e0 w0 ⟨rfl, rfl⟩
            go_wp2_with fail
            refine (H2.out _).mono ?_
            rintro e0 w0 ⟨rfl, rfl⟩
            go_wp2_with fail
            refine (H3.out _).mono ?_
            rintro e0 w0 ⟨rfl, rfl⟩
            go_wp2_with fail
            obtain ⟨c0, c1, c2, c3, c4, c5, c6⟩ := box7 W1 53 (.int .i64 fi) (.int .i64 fl) (.int .i64 fe) (.int .i64 fc) (.int .i64 fd) (.bool fo) (.bool fg)
            have cB := alloc_below W1 (.cells #[.int .i64 fi, .int .i64 fl, .int .i64 fe, .int .i64 fc, .int .i64 fd, .bool fo, .bool fg] 53)
            have cL : W1.heap.size < (W1.alloc (.cells #[.int .i64 fi, .int .i64 fl, .int .i64 fe, .int .i64 fc, .int .i64 fd, .bool fo, .bool fg] 53)).heap.size := by simp
            have cT : w.heap.size < (W1.alloc (.cells #[.int .i64 fi, .int .i64 fl, .int .i64 fe, .int .i64 fc, .int .i64 fd, .bool fo, .bool fg] 53)).heap.size := by simp; omega
            have d0 := (cB.cell bL).trans b0
            have d1 := (cB.cell bL).trans b1
            have d2 := (cB.cell bL).trans b2
            have d3 := (cB.cell bL).trans b3
            have d4 := (cB.cell bL).trans b4
            have d5 := (cB.cell bL).trans b5
            have d6 := (cB.cell bL).trans b6
            have d7 := (cB.cell bL).trans b7
            have d8 := (cB.cell bL).trans b8
            have d9 := (cB.cell bL).trans b9
            have d10 := (cB.cell bL).trans b10
            have d11 := (cB.cell bL).trans b11
            have HW := hidP (bB.trans (cB.mono bB.size))
            clear b0 b1 b2 b3 b4 b5 b6 b7 b8 b9 b10 b11 y0 y1 y2 y3 y4 y5 y6 cB
            generalize W1.alloc (.cells #[.int .i64 fi, .int .i64 fl, .int .i64 fe, .int .i64 fc, .int .i64 fd, .bool fo, .bool fg] 53) = W2 at *
            refine (HI.out _).mono ?_
            rintro e0 w0 ⟨rfl, rfl⟩
            go_wp2_with fail
            refine (HL.out _).mono ?_
            rintro e0 w0 ⟨rfl, rfl⟩
            go_wp2_with fail
            refine (HC.out _).mono ?_
            rintro e0 w0 ⟨rfl, rfl⟩
            go_wp2_with fail
            go_ret
            exact ⟨rfl, HW.out⟩
          · have HI := wI true hI
            have HL := wL true hL
            have HC := wC false hC
            have hR : R = false := by rw [← hfb, hI, hL, hC, hE, hD]; simp
            subst hR
            clear hfb wI wL wC hI hL hC
            clear HE HG
            go_enter Tryd.func7, Tryd.ntmps7
            go_wp2_with fail
            obtain ⟨b0, b1, b2, b3, b4, b5, b6, b7, b8, b9, b10, b11⟩ := box12 w 34 (.int .i64 (k : Int)) (.int .i64 F) (.int .i64 T) (.int .i64 M) (.int .i64 I) (.int .i64 L) (.slice ea en ec) (.int .i64 C) (.bool O) (.slice da dn dc) (.slice ga gn gc) (.slice ha hn hc)
            have bB := alloc_below w (.cells #[.int .i64 (k : Int), .int .i64 F, .int .i64 T, .int .i64 M, .int .i64 I, .int .i64 L, .slice ea en ec, .int .i64 C, .bool O, .slice da dn dc, .slice ga gn gc, .slice ha hn hc] 34)
            have bL : w.heap.size < (w.alloc (.cells #[.int .i64 (k : Int), .int .i64 F, .int .i64 T, .int .i64 M, .int .i64 I, .int .i64 L, .slice ea en ec, .int .i64 C, .bool O, .slice da dn dc, .slice ga gn gc, .slice ha hn hc] 34)).heap.size := by simp
            have y0 := (bB.cell HZ.out).trans x0
            have y1 := (bB.cell HZ.out).trans x1
            have y2 := (bB.cell HZ.out).trans x2
            have y3 := (bB.cell HZ.out).trans x3
            have y4 := (bB.cell HZ.out).trans x4
            have y5 := (bB.cell HZ.out).trans x5
            have y6 := (bB.cell HZ.out).trans x6
            clear x0 x1 x2 x3 x4 x5 x6
            generalize w.alloc (.cells #[.int .i64 (k : Int), .int .i64 F, .int .i64 T, .int .i64 M, .int .i64 I, .int .i64 L, .slice ea en ec, .int .i64 C, .bool O, .slice da dn dc, .slice ga gn gc, .slice ha hn hc] 34) = W1 at *
            refine (H0.out _).mono ?_
            rintro e0 w0 ⟨rfl, rfl⟩
            go_wp2_with fail
            refine (H1.out _).mono ?_
            rintro e0 w0 ⟨rfl, rfl⟩
            go_wp2_with fail
            refine (H2.out _).mono ?_
            rintro e0 w0 ⟨rfl, rfl⟩
            go_wp2_with fail
            refine (H3.out _).mono ?_
            rintro e0 w0 ⟨rfl, rfl⟩
            go_wp2_with fail
            obtain ⟨c0, c1, c2, c3, c4, c5, c6⟩ := box7 W1 53 (.int .i64 fi) (.int .i64 fl) (.int .i64 fe) (.int .i64 fc) (.int .i64 fd) (.bool fo) (.bool fg)
            have cB := alloc_below W1 (.cells #[.int .i64 fi, .int .i64 fl, .int .i64 fe, .int .i64 fc, .int .i64 fd, .bool fo, .bool fg] 53)
            have cL : W1.heap.size < (W1.alloc (.cells #[.int .i64 fi, .int .i64 fl, .int .i64 fe, .int .i64 fc, .int .i64 fd, .bool fo, .bool fg] 53)).heap.size := by simp
            have cT : w.heap.size < (W1.alloc (.cells #[.int .i64 fi, .int .i64 fl, .int .i64 fe, .int .i64 fc, .int .i64 fd, .bool fo, .bool fg] 53)).heap.size := by simp; omega
            have d0 := (cB.cell bL).trans b0
            have d1 := (cB.cell bL).trans b1
            have d2 := (cB.cell bL).trans b2
            have d3 := (cB.cell bL).trans b3
            have d4 := (cB.cell bL).trans b4
            have d5 := (cB.cell bL).trans b5
            have d6 := (cB.cell bL).trans b6
            have d7 := (cB.cell bL).trans b7
            have d8 := (cB.cell bL).trans b8
            have d9 := (cB.cell bL).trans b9
            have d10 := (cB.cell bL).trans b10
            have d11 := (cB.cell bL).trans b11
            have HW := hidP (bB.trans (cB.mono bB.size))
            clear b0 b1 b2 b3 b4 b5 b6 b7 b8 b9 b10 b11 y0 y1 y2 y3 y4 y5 y6 cB
            generalize W1.alloc (.cells #[.int .i64 fi, .int .i64 fl, .int .i64 fe, .int .i64 fc, .int .i64 fd, .bool fo, .bool fg] 53) = W2 at *
            refine (HI.out _).mono ?_
            rintro e0 w0 ⟨rfl, rfl⟩
            go_wp2_with fail
            refine (HL.out _).mono ?_
            rintro e0 w0 ⟨rfl, rfl⟩
            go_wp2_with fail
            refine (HC.out _).mono ?_
            rintro e0 w0 ⟨rfl, rfl⟩
            go_wp2_with fail
            go_ret
            exact ⟨rfl, HW.out⟩
      · cases hE : decide ((en : Int) ≤ fe)
        · have HI := wI true hI
          have HL := wL true hL
          have HC := wC true hC
          have hR : R = false := by rw [← hfb, hI, hL, hC, hE]; simp
          subst hR
          clear hfb wI wL wC hI hL hC
          clear HE HG
          go_enter Tryd.func7, Tryd.ntmps7
          go_wp2_with fail
          obtain ⟨b0, b1, b2, b3, b4, b5, b6, b7, b8, b9, b10, b11⟩ := box12 w 34 (.int .i64 (k : Int)) (.int .i64 F) (.int .i64 T) (.int .i64 M) (.int .i64 I) (.int .i64 L) (.slice ea en ec) (.int .i64 C) (.bool O) (.slice da dn dc) (.slice ga gn gc) (.slice ha hn hc)
          have bB := alloc_below w (.cells #[.int .i64 (k : Int), .int .i64 F, .int .i64 T, .int .i64 M, .int .i64 I, .int .i64 L, .slice ea en ec, .int .i64 C, .bool O, .slice da dn dc, .slice ga gn gc, .slice ha hn hc] 34)
          have bL : w.heap.size < (w.alloc (.cells #[.int .i64 (k : Int), .int .i64 F, .int .i64 T, .int .i64 M, .int .i64 I, .int .i64 L, .slice ea en ec, .int .i64 C, .bool O, .slice da dn dc, .slice ga gn gc, .slice ha hn hc] 34)).heap.size := by simp
          have y0 := (bB.cell HZ.out).trans x0
          have y1 := (bB.cell HZ.out).trans x1
          have y2 := (bB.cell HZ.out).trans x2
          have y3 := (bB.cell HZ.out).trans x3
          have y4 := (bB.cell HZ.out).trans x4
          have y5 := (bB.cell HZ.out).trans x5
          have y6 := (bB.cell HZ.out).trans x6
          clear x0 x1 x2 x3 x4 x5 x6
          generalize w.alloc (.cells #[.int .i64 (k : Int), .int .i64 F, .int .i64 T, .int .i64 M, .int .i64 I, .int .i64 L, .slice ea en ec, .int .i64 C, .bool O, .slice da dn dc, .slice ga gn gc, .slice ha hn hc] 34) = W1 at *
          refine (H0.out _).mono ?_
          rintro e0 w0 ⟨rfl, rfl⟩
          go_wp2_with fail
          refine (H1.out _).mono ?_
          rintro e0 w0 ⟨rfl, rfl⟩
          go_wp2_with fail
          refine (H2.out _).mono ?_
          rintro e0 w0 ⟨rfl, rfl⟩
          go_wp2_with fail
          refine (H3.out _).mono ?_
          rintro e0 w0 ⟨rfl, rfl⟩
          go_wp2_with fail
          obtain ⟨c0, c1, c2, c3, c4, c5, c6⟩ := box7 W1 53 (.int .i64 fi) (.int .i64 fl) (.int .i64 fe) (.int .i64 fc) (.int .i64 fd) (.bool fo) (.bool fg)
          have cB := alloc_below W1 (.cells #[.int .i64 fi, .int .i64 fl, .int .i64 fe, .int .i64 fc, .int .i64 fd, .bool fo, .bool fg] 53)
          have cL : W1.heap.size < (W1.alloc (.cells #[.int .i64 fi, .int .i64 fl, .int .i64 fe, .int .i64 fc, .int .i64 fd, .bool fo, .bool fg] 53)).heap.size := by simp
          have cT : w.heap.size < (W1.alloc (.cells #[.int .i64 fi, .int .i64 fl, .int .i64 fe, .int .i64 fc, .int .i64 fd, .bool fo, .bool fg] 53)).heap.size := by simp; omega
          have d0 := (cB.cell bL).trans b0
          have d1 := (cB.cell bL).trans b1
          have d2 := (cB.cell bL).trans b2
          have d3 := (cB.cell bL).trans b3
          have d4 := (cB.cell bL).trans b4
          have d5 := (cB.cell bL).trans b5
          have d6 := (cB.cell bL).trans b6
          have d7 := (cB.cell bL).trans b7
          have d8 := (cB.cell bL).trans b8
          have d9 := (cB.cell bL).trans b9
          have d10 := (cB.cell bL).trans b10
          have d11 := (cB.cell bL).trans b11
          have HW := hidP (bB.trans (cB.mono bB.size))
          clear b0 b1 b2 b3 b4 b5 b6 b7 b8 b9 b10 b11 y0 y1 y2 y3 y4 y5 y6 cB
          generalize W1.alloc (.cells #[.int .i64 fi, .int .i64 fl, .int .i64 fe, .int .i64 fc, .int .i64 fd, .bool fo, .bool fg] 53) = W2 at *
          refine (HI.out _).mono ?_
          rintro e0 w0 ⟨rfl, rfl⟩
          go_wp2_with fail
          refine (HL.out _).mono ?_
          rintro e0 w0 ⟨rfl, rfl⟩
          go_wp2_with fail
          refine (HC.out _).mono ?_
          rintro e0 w0 ⟨rfl, rfl⟩
          go_wp2_with fail
          go_ret
          exact ⟨rfl, HW.out⟩
        · cases hD : decide ((dn : Int) ≤ fd)
          · have HI := wI true hI
            have HL := wL true hL
            have HC := wC true hC
            have hR : R = false := by rw [← hfb, hI, hL, hC, hE, hD]; simp
            subst hR
            clear hfb wI wL wC hI hL hC
            clear HE HG
            go_enter Tryd.func7, Tryd.ntmps7
            go_wp2_with fail
            obtain ⟨b0, b1, b2, b3, b4, b5, b6, b7, b8, b9, b10, b11⟩ := box12 w 34 (.int .i64 (k : Int)) (.int .i64 F) (.int .i64 T) (.int .i64 M) (.int .i64 I) (.int .i64 L) (.slice ea en ec) (.int .i64 C) (.bool O) (.slice da dn dc) (.slice ga gn gc) (.slice ha hn hc)
            have bB := alloc_below w (.cells #[.int .i64 (k : Int), .int .i64 F, .int .i64 T, .int .i64 M, .int .i64 I, .int .i64 L, .slice ea en ec, .int .i64 C, .bool O, .slice da dn dc, .slice ga gn gc, .slice ha hn hc] 34)
            have bL : w.heap.size < (w.alloc (.cells #[.int .i64 (k : Int), .int .i64 F, .int .i64 T, .int .i64 M, .int .i64 I, .int .i64 L, .slice ea en ec, .int .i64 C, .bool O, .slice da dn dc, .slice ga gn gc, .slice ha hn hc] 34)).heap.size := by simp
            have y0 := (bB.cell HZ.out).trans x0
            have y1 := (bB.cell HZ.out).trans x1
            have y2 := (bB.cell HZ.out).trans x2
            have y3 := (bB.cell HZ.out).trans x3
            have y4 := (bB.cell HZ.out).trans x4
            have y5 := (bB.cell HZ.out).trans x5
            have y6 := (bB.cell HZ.out).trans x6
            clear x0 x1 x2 x3 x4 x5 x6
            generalize w.alloc (.cells #[.int .i64 (k : Int), .int .i64 F, .int .i64 T, .int .i64 M, .int .i64 I, .int .i64 L, .slice ea en ec, .int .i64 C, .bool O, .slice da dn dc, .slice ga gn gc, .slice ha hn hc] 34) = W1 at *
            refine (H0.out _).mono ?_
            rintro e0 w0 ⟨rfl, rfl⟩
            go_wp2_with fail
            refine (H1.out _).mono ?_
            rintro e0 w0 ⟨rfl, rfl⟩
            go_wp2_with fail
            refine (H2.out _).mono ?_
            rintro e0 w0 ⟨rfl, rfl⟩
            go_wp2_with fail
            refine (H3.out _).mono ?_
            rintro e0 w0 ⟨rfl, rfl⟩
            go_wp2_with fail
            obtain ⟨c0, c1, c2, c3, c4, c5, c6⟩ := box7 W1 53 (.int .i64 fi) (.int .i64 fl) (.int .i64 fe) (.int .i64 fc) (.int .i64 fd) (.bool fo) (.bool fg)
            have cB := alloc_below W1 (.cells #[.int .i64 fi, .int .i64 fl, .int .i64 fe, .int .i64 fc, .int .i64 fd, .bool fo, .bool fg] 53)
            have cL : W1.heap.size < (W1.alloc (.cells #[.int .i64 fi, .int .i64 fl, .int .i64 fe, .int .i64 fc, .int .i64 fd, .bool fo, .bool fg] 53)).heap.size := by simp
            have cT : w.heap.size < (W1.alloc (.cells #[.int .i64 fi, .int .i64 fl, .int .i64 fe, .int .i64 fc, .int .i64 fd, .bool fo, .bool fg] 53)).heap.size := by simp; omega
            have d0 := (cB.cell bL).trans b0
            have d1 := (cB.cell bL).trans b1
            have d2 := (cB.cell bL).trans b2
            have d3 := (cB.cell bL).trans b3
            have d4 := (cB.cell bL).trans b4
            have d5 := (cB.cell bL).trans b5
            have d6 := (cB.cell bL).trans b6
            have d7 := (cB.cell bL).trans b7
            have d8 := (cB.cell bL).trans b8
            have d9 := (cB.cell bL).trans b9
            have d10 := (cB.cell bL).trans b10
            have d11 := (cB.cell bL).trans b11
            have HW := hidP (bB.trans (cB.mono bB.size))
            clear b0 b1 b2 b3 b4 b5 b6 b7 b8 b9 b10 b11 y0 y1 y2 y3 y4 y5 y6 cB
            generalize W1.alloc (.cells #[.int .i64 fi, .int .i64 fl, .int .i64 fe, .int .i64 fc, .int .i64 fd, .bool fo, .bool fg] 53) = W2 at *
            refine (HI.out _).mono ?_
            rintro e0 w0 ⟨rfl, rfl⟩
            go_wp2_with fail
            refine (HL.out _).mono ?_
            rintro e0 w0 ⟨rfl, rfl⟩
            go_wp2_with fail
            refine (HC.out _).mono ?_
            rintro e0 w0 ⟨rfl, rfl⟩
            go_wp2_with fail
            go_ret
            exact ⟨rfl, HW.out⟩
          · cases hO : O
            · cases he : (risE L es && decide (lasE L es ≤ M))
              · have HI := wI true hI
                have HL := wL true hL
                have HC := wC true hC
                have hR : R = false := by rw [← hfb, hI, hL, hC, hE, hD, hO, he]; simp
                subst hR
                rw [he] at HE
                subst hO
                clear hfb wI wL wC hI hL hC he
                clear HG
                go_enter Tryd.func7, Tryd.ntmps7
                go_wp2_with fail
                obtain ⟨b0, b1, b2, b3, b4, b5, b6, b7, b8, b9, b10, b11⟩ := box12 w 34 (.int .i64 (k : Int)) (.int .i64 F) (.int .i64 T) (.int .i64 M) (.int .i64 I) (.int .i64 L) (.slice ea en ec) (.int .i64 C) (.bool false) (.slice da dn dc) (.slice ga gn gc) (.slice ha hn hc)
                have bB := alloc_below w (.cells #[.int .i64 (k : Int), .int .i64 F, .int .i64 T, .int .i64 M, .int .i64 I, .int .i64 L, .slice ea en ec, .int .i64 C, .bool false, .slice da dn dc, .slice ga gn gc, .slice ha hn hc] 34)
                have bL : w.heap.size < (w.alloc (.cells #[.int .i64 (k : Int), .int .i64 F, .int .i64 T, .int .i64 M, .int .i64 I, .int .i64 L, .slice ea en ec, .int .i64 C, .bool false, .slice da dn dc, .slice ga gn gc, .slice ha hn hc] 34)).heap.size := by simp
                have y0 := (bB.cell HZ.out).trans x0
                have y1 := (bB.cell HZ.out).trans x1
                have y2 := (bB.cell HZ.out).trans x2
                have y3 := (bB.cell HZ.out).trans x3
                have y4 := (bB.cell HZ.out).trans x4
                have y5 := (bB.cell HZ.out).trans x5
                have y6 := (bB.cell HZ.out).trans x6
                clear x0 x1 x2 x3 x4 x5 x6
                generalize w.alloc (.cells #[.int .i64 (k : Int), .int .i64 F, .int .i64 T, .int .i64 M, .int .i64 I, .int .i64 L, .slice ea en ec, .int .i64 C, .bool false, .slice da dn dc, .slice ga gn gc, .slice ha hn hc] 34) = W1 at *
                refine (H0.out _).mono ?_
                rintro e0 w0 ⟨rfl, rfl⟩
                go_wp2_with fail
                refine (H1.out _).mono ?_
                rintro e0 w0 ⟨rfl, rfl⟩
                go_wp2_with fail
                refine (H2.out _).mono ?_
                rintro e0 w0 ⟨rfl, rfl⟩
                go_wp2_with fail
                refine (H3.out _).mono ?_
                rintro e0 w0 ⟨rfl, rfl⟩
                go_wp2_with fail
                obtain ⟨c0, c1, c2, c3, c4, c5, c6⟩ := box7 W1 53 (.int .i64 fi) (.int .i64 fl) (.int .i64 fe) (.int .i64 fc) (.int .i64 fd) (.bool fo) (.bool fg)
                have cB := alloc_below W1 (.cells #[.int .i64 fi, .int .i64 fl, .int .i64 fe, .int .i64 fc, .int .i64 fd, .bool fo, .bool fg] 53)
                have cL : W1.heap.size < (W1.alloc (.cells #[.int .i64 fi, .int .i64 fl, .int .i64 fe, .int .i64 fc, .int .i64 fd, .bool fo, .bool fg] 53)).heap.size := by simp
                have cT : w.heap.size < (W1.alloc (.cells #[.int .i64 fi, .int .i64 fl, .int .i64 fe, .int .i64 fc, .int .i64 fd, .bool fo, .bool fg] 53)).heap.size := by simp; omega
                have d0 := (cB.cell bL).trans b0
                have d1 := (cB.cell bL).trans b1
                have d2 := (cB.cell bL).trans b2
                have d3 := (cB.cell bL).trans b3
                have d4 := (cB.cell bL).trans b4
                have d5 := (cB.cell bL).trans b5
                have d6 := (cB.cell bL).trans b6
                have d7 := (cB.cell bL).trans b7
                have d8 := (cB.cell bL).trans b8
                have d9 := (cB.cell bL).trans b9
                have d10 := (cB.cell bL).trans b10
                have d11 := (cB.cell bL).trans b11
                have HW := hidP (bB.trans (cB.mono bB.size))
                clear b0 b1 b2 b3 b4 b5 b6 b7 b8 b9 b10 b11 y0 y1 y2 y3 y4 y5 y6 cB
                generalize W1.alloc (.cells #[.int .i64 fi, .int .i64 fl, .int .i64 fe, .int .i64 fc, .int .i64 fd, .bool fo, .bool fg] 53) = W2 at *
                refine (HI.out _).mono ?_
                rintro e0 w0 ⟨rfl, rfl⟩
                go_wp2_with fail
                refine (HL.out _).mono ?_
                rintro e0 w0 ⟨rfl, rfl⟩
                go_wp2_with fail
                refine (HC.out _).mono ?_
                rintro e0 w0 ⟨rfl, rfl⟩
                go_wp2_with fail
                refine (HE.out _ HW.out).mono ?_
                rintro e1 w1 ⟨rfl, hb1⟩
                have HW1 := hidP (HW.out.trans (hb1.mono HW.out.size))
                clear hb1
                go_wp2_with fail
                go_ret
                exact ⟨rfl, HW1.out⟩
              · have HI := wI true hI
                have HL := wL true hL
                have HC := wC true hC
                have hR : R = gfB fg gn hn ps bs := by rw [← hfb, hI, hL, hC, hE, hD, hO, he]; simp
                subst hR
                rw [he] at HE
                subst hO
                clear hfb wI wL wC hI hL hC he
                go_enter Tryd.func7, Tryd.ntmps7
                go_wp2_with fail
                obtain ⟨b0, b1, b2, b3, b4, b5, b6, b7, b8, b9, b10, b11⟩ := box12 w 34 (.int .i64 (k : Int)) (.int .i64 F) (.int .i64 T) (.int .i64 M) (.int .i64 I) (.int .i64 L) (.slice ea en ec) (.int .i64 C) (.bool false) (.slice da dn dc) (.slice ga gn gc) (.slice ha hn hc)
                have bB := alloc_below w (.cells #[.int .i64 (k : Int), .int .i64 F, .int .i64 T, .int .i64 M, .int .i64 I, .int .i64 L, .slice ea en ec, .int .i64 C, .bool false, .slice da dn dc, .slice ga gn gc, .slice ha hn hc] 34)
                have bL : w.heap.size < (w.alloc (.cells #[.int .i64 (k : Int), .int .i64 F, .int .i64 T, .int .i64 M, .int .i64 I, .int .i64 L, .slice ea en ec, .int .i64 C, .bool false, .slice da dn dc, .slice ga gn gc, .slice ha hn hc] 34)).heap.size := by simp
                have y0 := (bB.cell HZ.out).trans x0
                have y1 := (bB.cell HZ.out).trans x1
                have y2 := (bB.cell HZ.out).trans x2
                have y3 := (bB.cell HZ.out).trans x3
                have y4 := (bB.cell HZ.out).trans x4
                have y5 := (bB.cell HZ.out).trans x5
                have y6 := (bB.cell HZ.out).trans x6
                clear x0 x1 x2 x3 x4 x5 x6
                generalize w.alloc (.cells #[.int .i64 (k : Int), .int .i64 F, .int .i64 T, .int .i64 M, .int .i64 I, .int .i64 L, .slice ea en ec, .int .i64 C, .bool false, .slice da dn dc, .slice ga gn gc, .slice ha hn hc] 34) = W1 at *
                refine (H0.out _).mono ?_
                rintro e0 w0 ⟨rfl, rfl⟩
                go_wp2_with fail
                refine (H1.out _).mono ?_
                rintro e0 w0 ⟨rfl, rfl⟩
                go_wp2_with fail
                refine (H2.out _).mono ?_
                rintro e0 w0 ⟨rfl, rfl⟩
                go_wp2_with fail
                refine (H3.out _).mono ?_
                rintro e0 w0 ⟨rfl, rfl⟩
                go_wp2_with fail
                obtain ⟨c0, c1, c2, c3, c4, c5, c6⟩ := box7 W1 53 (.int .i64 fi) (.int .i64 fl) (.int .i64 fe) (.int .i64 fc) (.int .i64 fd) (.bool fo) (.bool fg)
                have cB := alloc_below W1 (.cells #[.int .i64 fi, .int .i64 fl, .int .i64 fe, .int .i64 fc, .int .i64 fd, .bool fo, .bool fg] 53)
                have cL : W1.heap.size < (W1.alloc (.cells #[.int .i64 fi, .int .i64 fl, .int .i64 fe, .int .i64 fc, .int .i64 fd, .bool fo, .bool fg] 53)).heap.size := by simp
                have cT : w.heap.size < (W1.alloc (.cells #[.int .i64 fi, .int .i64 fl, .int .i64 fe, .int .i64 fc, .int .i64 fd, .bool fo, .bool fg] 53)).heap.size := by simp; omega
                have d0 := (cB.cell bL).trans b0
                have d1 := (cB.cell bL).trans b1
                have d2 := (cB.cell bL).trans b2
                have d3 := (cB.cell bL).trans b3
                have d4 := (cB.cell bL).trans b4
                have d5 := (cB.cell bL).trans b5
                have d6 := (cB.cell bL).trans b6
                have d7 := (cB.cell bL).trans b7
                have d8 := (cB.cell bL).trans b8
                have d9 := (cB.cell bL).trans b9
                have d10 := (cB.cell bL).trans b10
                have d11 := (cB.cell bL).trans b11
                have HW := hidP (bB.trans (cB.mono bB.size))
                clear b0 b1 b2 b3 b4 b5 b6 b7 b8 b9 b10 b11 y0 y1 y2 y3 y4 y5 y6 cB
                generalize W1.alloc (.cells #[.int .i64 fi, .int .i64 fl, .int .i64 fe, .int .i64 fc, .int .i64 fd, .bool fo, .bool fg] 53) = W2 at *
                refine (HI.out _).mono ?_
                rintro e0 w0 ⟨rfl, rfl⟩
                go_wp2_with fail
                refine (HL.out _).mono ?_
                rintro e0 w0 ⟨rfl, rfl⟩
                go_wp2_with fail
                refine (HC.out _).mono ?_
                rintro e0 w0 ⟨rfl, rfl⟩
                go_wp2_with fail
                refine (HE.out _ HW.out).mono ?_
                rintro e1 w1 ⟨rfl, hb1⟩
                have HW1 := hidP (HW.out.trans (hb1.mono HW.out.size))
                have g10 := (hb1.cell cT).trans d10
                have g11 := (hb1.cell cT).trans d11
                have g6 := (hb1.cell cL).trans c6
                clear hb1
                go_wp2_with fail
                refine (HG.out _ HW1.out).mono ?_
                rintro e2 w2 ⟨rfl, hb2⟩
                have HW2 := hidP (HW1.out.trans (hb2.mono HW1.out.size))
                clear hb2
                go_wp2_with fail
                go_ret
                exact ⟨rfl, HW2.out⟩
            · cases ho : fo
              · have HI := wI true hI
                have HL := wL true hL
                have HC := wC true hC
                have hR : R = false := by rw [← hfb, hI, hL, hC, hE, hD, hO, ho]; simp
                subst hR
                subst hO
                subst ho
                clear hfb wI wL wC hI hL hC
                clear HE HG
                go_enter Tryd.func7, Tryd.ntmps7
                go_wp2_with fail
                obtain ⟨b0, b1, b2, b3, b4, b5, b6, b7, b8, b9, b10, b11⟩ := box12 w 34 (.int .i64 (k : Int)) (.int .i64 F) (.int .i64 T) (.int .i64 M) (.int .i64 I) (.int .i64 L) (.slice ea en ec) (.int .i64 C) (.bool true) (.slice da dn dc) (.slice ga gn gc) (.slice ha hn hc)
                have bB := alloc_below w (.cells #[.int .i64 (k : Int), .int .i64 F, .int .i64 T, .int .i64 M, .int .i64 I, .int .i64 L, .slice ea en ec, .int .i64 C, .bool true, .slice da dn dc, .slice ga gn gc, .slice ha hn hc] 34)
                have bL : w.heap.size < (w.alloc (.cells #[.int .i64 (k : Int), .int .i64 F, .int .i64 T, .int .i64 M, .int .i64 I, .int .i64 L, .slice ea en ec, .int .i64 C, .bool true, .slice da dn dc, .slice ga gn gc, .slice ha hn hc] 34)).heap.size := by simp
                have y0 := (bB.cell HZ.out).trans x0
                have y1 := (bB.cell HZ.out).trans x1
                have y2 := (bB.cell HZ.out).trans x2
                have y3 := (bB.cell HZ.out).trans x3
                have y4 := (bB.cell HZ.out).trans x4
                have y5 := (bB.cell HZ.out).trans x5
                have y6 := (bB.cell HZ.out).trans x6
                clear x0 x1 x2 x3 x4 x5 x6
                generalize w.alloc (.cells #[.int .i64 (k : Int), .int .i64 F, .int .i64 T, .int .i64 M, .int .i64 I, .int .i64 L, .slice ea en ec, .int .i64 C, .bool true, .slice da dn dc, .slice ga gn gc, .slice ha hn hc] 34) = W1 at *
                refine (H0.out _).mono ?_
                rintro e0 w0 ⟨rfl, rfl⟩
                go_wp2_with fail
                refine (H1.out _).mono ?_
                rintro e0 w0 ⟨rfl, rfl⟩
                go_wp2_with fail
                refine (H2.out _).mono ?_
                rintro e0 w0 ⟨rfl, rfl⟩
                go_wp2_with fail
                refine (H3.out _).mono ?_
                rintro e0 w0 ⟨rfl, rfl⟩
                go_wp2_with fail
                obtain ⟨c0, c1, c2, c3, c4, c5, c6⟩ := box7 W1 53 (.int .i64 fi) (.int .i64 fl) (.int .i64 fe) (.int .i64 fc) (.int .i64 fd) (.bool false) (.bool fg)
                have cB := alloc_below W1 (.cells #[.int .i64 fi, .int .i64 fl, .int .i64 fe, .int .i64 fc, .int .i64 fd, .bool false, .bool fg] 53)
                have cL : W1.heap.size < (W1.alloc (.cells #[.int .i64 fi, .int .i64 fl, .int .i64 fe, .int .i64 fc, .int .i64 fd, .bool false, .bool fg] 53)).heap.size := by simp
                have cT : w.heap.size < (W1.alloc (.cells #[.int .i64 fi, .int .i64 fl, .int .i64 fe, .int .i64 fc, .int .i64 fd, .bool false, .bool fg] 53)).heap.size := by simp; omega
                have d0 := (cB.cell bL).trans b0
                have d1 := (cB.cell bL).trans b1
                have d2 := (cB.cell bL).trans b2
                have d3 := (cB.cell bL).trans b3
                have d4 := (cB.cell bL).trans b4
                have d5 := (cB.cell bL).trans b5
                have d6 := (cB.cell bL).trans b6
                have d7 := (cB.cell bL).trans b7
                have d8 := (cB.cell bL).trans b8
                have d9 := (cB.cell bL).trans b9
                have d10 := (cB.cell bL).trans b10
                have d11 := (cB.cell bL).trans b11
                have HW := hidP (bB.trans (cB.mono bB.size))
                clear b0 b1 b2 b3 b4 b5 b6 b7 b8 b9 b10 b11 y0 y1 y2 y3 y4 y5 y6 cB
                generalize W1.alloc (.cells #[.int .i64 fi, .int .i64 fl, .int .i64 fe, .int .i64 fc, .int .i64 fd, .bool false, .bool fg] 53) = W2 at *
                refine (HI.out _).mono ?_
                rintro e0 w0 ⟨rfl, rfl⟩
                go_wp2_with fail
                refine (HL.out _).mono ?_
                rintro e0 w0 ⟨rfl, rfl⟩
                go_wp2_with fail
                refine (HC.out _).mono ?_
                rintro e0 w0 ⟨rfl, rfl⟩
                go_wp2_with fail
                go_ret
                exact ⟨rfl, HW.out⟩
              · cases he : (risE L es && decide (lasE L es ≤ M))
                · have HI := wI true hI
                  have HL := wL true hL
                  have HC := wC true hC
                  have hR : R = false := by rw [← hfb, hI, hL, hC, hE, hD, hO, ho, he]; simp
                  subst hR
                  rw [he] at HE
                  subst hO
                  subst ho
                  clear hfb wI wL wC hI hL hC he
                  clear HG
                  go_enter Tryd.func7, Tryd.ntmps7
                  go_wp2_with fail
                  obtain ⟨b0, b1, b2, b3, b4, b5, b6, b7, b8, b9, b10, b11⟩ := box12 w 34 (.int .i64 (k : Int)) (.int .i64 F) (.int .i64 T) (.int .i64 M) (.int .i64 I) (.int .i64 L) (.slice ea en ec) (.int .i64 C) (.bool true) (.slice da dn dc) (.slice ga gn gc) (.slice ha hn hc)
                  have bB := alloc_below w (.cells #[.int .i64 (k : Int), .int .i64 F, .int .i64 T, .int .i64 M, .int .i64 I, .int .i64 L, .slice ea en ec, .int .i64 C, .bool true, .slice da dn dc, .slice ga gn gc, .slice ha hn hc] 34)
                  have bL : w.heap.size < (w.alloc (.cells #[.int .i64 (k : Int), .int .i64 F, .int .i64 T, .int .i64 M, .int .i64 I, .int .i64 L, .slice ea en ec, .int .i64 C, .bool true, .slice da dn dc, .slice ga gn gc, .slice ha hn hc] 34)).heap.size := by simp
                  have y0 := (bB.cell HZ.out).trans x0
                  have y1 := (bB.cell HZ.out).trans x1
                  have y2 := (bB.cell HZ.out).trans x2
                  have y3 := (bB.cell HZ.out).trans x3
                  have y4 := (bB.cell HZ.out).trans x4
                  have y5 := (bB.cell HZ.out).trans x5
                  have y6 := (bB.cell HZ.out).trans x6
                  clear x0 x1 x2 x3 x4 x5 x6
                  generalize w.alloc (.cells #[.int .i64 (k : Int), .int .i64 F, .int .i64 T, .int .i64 M, .int .i64 I, .int .i64 L, .slice ea en ec, .int .i64 C, .bool true, .slice da dn dc, .slice ga gn gc, .slice ha hn hc] 34) = W1 at *
                  refine (H0.out _).mono ?_
                  rintro e0 w0 ⟨rfl, rfl⟩
                  go_wp2_with fail
                  refine (H1.out _).mono ?_
                  rintro e0 w0 ⟨rfl, rfl⟩
                  go_wp2_with fail
                  refine (H2.out _).mono ?_
                  rintro e0 w0 ⟨rfl, rfl⟩
                  go_wp2_with fail
                  refine (H3.out _).mono ?_
                  rintro e0 w0 ⟨rfl, rfl⟩
                  go_wp2_with fail
                  obtain ⟨c0, c1, c2, c3, c4, c5, c6⟩ := box7 W1 53 (.int .i64 fi) (.int .i64 fl) (.int .i64 fe) (.int .i64 fc) (.int .i64 fd) (.bool true) (.bool fg)
                  have cB := alloc_below W1 (.cells #[.int .i64 fi, .int .i64 fl, .int .i64 fe, .int .i64 fc, .int .i64 fd, .bool true, .bool fg] 53)
                  have cL : W1.heap.size < (W1.alloc (.cells #[.int .i64 fi, .int .i64 fl, .int .i64 fe, .int .i64 fc, .int .i64 fd, .bool true, .bool fg] 53)).heap.size := by simp
                  have cT : w.heap.size < (W1.alloc (.cells #[.int .i64 fi, .int .i64 fl, .int .i64 fe, .int .i64 fc, .int .i64 fd, .bool true, .bool fg] 53)).heap.size := by simp; omega
                  have d0 := (cB.cell bL).trans b0
                  have d1 := (cB.cell bL).trans b1
                  have d2 := (cB.cell bL).trans b2
                  have d3 := (cB.cell bL).trans b3
                  have d4 := (cB.cell bL).trans b4
                  have d5 := (cB.cell bL).trans b5
                  have d6 := (cB.cell bL).trans b6
                  have d7 := (cB.cell bL).trans b7
                  have d8 := (cB.cell bL).trans b8
                  have d9 := (cB.cell bL).trans b9
                  have d10 := (cB.cell bL).trans b10
                  have d11 := (cB.cell bL).trans b11
                  have HW := hidP (bB.trans (cB.mono bB.size))
                  clear b0 b1 b2 b3 b4 b5 b6 b7 b8 b9 b10 b11 y0 y1 y2 y3 y4 y5 y6 cB
                  generalize W1.alloc (.cells #[.int .i64 fi, .int .i64 fl, .int .i64 fe, .int .i64 fc, .int .i64 fd, .bool true, .bool fg] 53) = W2 at *
                  refine (HI.out _).mono ?_
                  rintro e0 w0 ⟨rfl, rfl⟩
                  go_wp2_with fail
                  refine (HL.out _).mono ?_
                  rintro e0 w0 ⟨rfl, rfl⟩
                  go_wp2_with fail
                  refine (HC.out _).mono ?_
                  rintro e0 w0 ⟨rfl, rfl⟩
                  go_wp2_with fail
                  refine (HE.out _ HW.out).mono ?_
                  rintro e1 w1 ⟨rfl, hb1⟩
                  have HW1 := hidP (HW.out.trans (hb1.mono HW.out.size))
                  clear hb1
                  go_wp2_with fail
                  go_ret
                  exact ⟨rfl, HW1.out⟩
                · have HI := wI true hI
                  have HL := wL true hL
                  have HC := wC true hC
                  have hR : R = gfB fg gn hn ps bs := by rw [← hfb, hI, hL, hC, hE, hD, hO, ho, he]; simp
                  subst hR
                  rw [he] at HE
                  subst hO
                  subst ho
                  clear hfb wI wL wC hI hL hC he
                  go_enter Tryd.func7, Tryd.ntmps7
                  go_wp2_with fail
                  obtain ⟨b0, b1, b2, b3, b4, b5, b6, b7, b8, b9, b10, b11⟩ := box12 w 34 (.int .i64 (k : Int)) (.int .i64 F) (.int .i64 T) (.int .i64 M) (.int .i64 I) (.int .i64 L) (.slice ea en ec) (.int .i64 C) (.bool true) (.slice da dn dc) (.slice ga gn gc) (.slice ha hn hc)
                  have bB := alloc_below w (.cells #[.int .i64 (k : Int), .int .i64 F, .int .i64 T, .int .i64 M, .int .i64 I, .int .i64 L, .slice ea en ec, .int .i64 C, .bool true, .slice da dn dc, .slice ga gn gc, .slice ha hn hc] 34)
                  have bL : w.heap.size < (w.alloc (.cells #[.int .i64 (k : Int), .int .i64 F, .int .i64 T, .int .i64 M, .int .i64 I, .int .i64 L, .slice ea en ec, .int .i64 C, .bool true, .slice da dn dc, .slice ga gn gc, .slice ha hn hc] 34)).heap.size := by simp
                  have y0 := (bB.cell HZ.out).trans x0
                  have y1 := (bB.cell HZ.out).trans x1
                  have y2 := (bB.cell HZ.out).trans x2
                  have y3 := (bB.cell HZ.out).trans x3
                  have y4 := (bB.cell HZ.out).trans x4
                  have y5 := (bB.cell HZ.out).trans x5
                  have y6 := (bB.cell HZ.out).trans x6
                  clear x0 x1 x2 x3 x4 x5 x6
                  generalize w.alloc (.cells #[.int .i64 (k : Int), .int .i64 F, .int .i64 T, .int .i64 M, .int .i64 I, .int .i64 L, .slice ea en ec, .int .i64 C, .bool true, .slice da dn dc, .slice ga gn gc, .slice ha hn hc] 34) = W1 at *
                  refine (H0.out _).mono ?_
                  rintro e0 w0 ⟨rfl, rfl⟩
                  go_wp2_with fail
                  refine (H1.out _).mono ?_
                  rintro e0 w0 ⟨rfl, rfl⟩
                  go_wp2_with fail
                  refine (H2.out _).mono ?_
                  rintro e0 w0 ⟨rfl, rfl⟩
                  go_wp2_with fail
                  refine (H3.out _).mono ?_
                  rintro e0 w0 ⟨rfl, rfl⟩
                  go_wp2_with fail
                  obtain ⟨c0, c1, c2, c3, c4, c5, c6⟩ := box7 W1 53 (.int .i64 fi) (.int .i64 fl) (.int .i64 fe) (.int .i64 fc) (.int .i64 fd) (.bool true) (.bool fg)
                  have cB := alloc_below W1 (.cells #[.int .i64 fi, .int .i64 fl, .int .i64 fe, .int .i64 fc, .int .i64 fd, .bool true, .bool fg] 53)
                  have cL : W1.heap.size < (W1.alloc (.cells #[.int .i64 fi, .int .i64 fl, .int .i64 fe, .int .i64 fc, .int .i64 fd, .bool true, .bool fg] 53)).heap.size := by simp
                  have cT : w.heap.size < (W1.alloc (.cells #[.int .i64 fi, .int .i64 fl, .int .i64 fe, .int .i64 fc, .int .i64 fd, .bool true, .bool fg] 53)).heap.size := by simp; omega
                  have d0 := (cB.cell bL).trans b0
                  have d1 := (cB.cell bL).trans b1
                  have d2 := (cB.cell bL).trans b2
                  have d3 := (cB.cell bL).trans b3
                  have d4 := (cB.cell bL).trans b4
                  have d5 := (cB.cell bL).trans b5
                  have d6 := (cB.cell bL).trans b6
                  have d7 := (cB.cell bL).trans b7
                  have d8 := (cB.cell bL).trans b8
                  have d9 := (cB.cell bL).trans b9
                  have d10 := (cB.cell bL).trans b10
                  have d11 := (cB.cell bL).trans b11
                  have HW := hidP (bB.trans (cB.mono bB.size))
                  clear b0 b1 b2 b3 b4 b5 b6 b7 b8 b9 b10 b11 y0 y1 y2 y3 y4 y5 y6 cB
                  generalize W1.alloc (.cells #[.int .i64 fi, .int .i64 fl, .int .i64 fe, .int .i64 fc, .int .i64 fd, .bool true, .bool fg] 53) = W2 at *
                  refine (HI.out _).mono ?_
                  rintro e0 w0 ⟨rfl, rfl⟩
                  go_wp2_with fail
                  refine (HL.out _).mono ?_
                  rintro e0 w0 ⟨rfl, rfl⟩
                  go_wp2_with fail
                  refine (HC.out _).mono ?_
                  rintro e0 w0 ⟨rfl, rfl⟩
                  go_wp2_with fail
                  refine (HE.out _ HW.out).mono ?_
                  rintro e1 w1 ⟨rfl, hb1⟩
                  have HW1 := hidP (HW.out.trans (hb1.mono HW.out.size))
                  have g10 := (hb1.cell cT).trans d10
                  have g11 := (hb1.cell cT).trans d11
                  have g6 := (hb1.cell cL).trans c6
                  clear hb1
                  go_wp2_with fail
                  refine (HG.out _ HW1.out).mono ?_
                  rintro e2 w2 ⟨rfl, hb2⟩
                  have HW2 := hidP (HW1.out.trans (hb2.mono HW1.out.size))
                  clear hb2
                  go_wp2_with fail
                  go_ret
                  exact ⟨rfl, HW2.out⟩

end Go.Proofs.YtgenjjhchnnpnaaDoor
