/-
  The program's eachLeft: what is left of a span is handed out one by one to the rounds of whoever asks.
-/
import Derived.Test.YtdbcdichmmcnbaaGreatZK26
import Derived.Test.YtdbcdichmmcnbaaGreatZK27
import Derived.Test.YtdbcdichmmcnbaaGreatZK10
import Derived.Test.YtdbcdichmmcnbaaGreatZK25
import Derived.Test.YtdbcdichmmcnbaaGreatZK23
import Derived.Deep.RegionHeld3
namespace Go.Proofs.YtdbcdichmmcnbaaGreat
open Go.RowKit

attribute [local go_sem] Oper.semAt_some

theorem wBi {x y : Sp} (hy : y.ok) (w : World) : Calls Tryz.prog 53 #[.agg #[.bool x.s, .int .i64 x.H.toInt, .int .i64 x.L.toInt, .int .i64 x.n], .agg #[.bool y.s, .int .i64 y.H.toInt, .int .i64 y.L.toInt, .int .i64 y.n]] w fun e w' => e = .returned (.bool (wB x y)) ∧ Below w.heap.size w w' := within_any x.s x.H x.L x.n y.s y.H y.L y.n hy.le w

/-- A span is handed out as its prefix. -/
def encP (x : Sp) : Array Value := #[.agg #[.bool x.s, .int .i64 x.H.toInt, .int .i64 x.L.toInt, .int .i64 ((wd x.s : Int) - x.n)]]

theorem Row.kpt {w w' : World} {a : Option Addr} {ps : List Pf} {M : Nat → Prop} (h : Row w a ps) (hk : Kpt (fun k => ¬ M k) w w') (hne : ∀ p o, a = some ⟨p, o, none⟩ → ¬ M p) : Row w' a ps := fun j hj => by
  obtain ⟨p, o, q, ha, hp, hq, c0, c1, c2, c3⟩ := h j hj
  have e : ∀ i, w'.cell? ⟨p, i, none⟩ = w.cell? ⟨p, i, none⟩ := fun i => World.cell?_of_block (hk.block p hp (hne p o ha))
  exact ⟨p, o, q, ha, Nat.lt_of_lt_of_le hp hk.size, hq, (e _).trans c0, (e _).trans c1, (e _).trans c2, (e _).trans c3⟩

def IEach (k : Nat) : Prop := ∀ (x : Sp) (_ : x.ok) (_ : x.n = k) (xs : List Sp) (_ : ∀ t ∈ xs, t.ok) (_ : xs.length ≤ 300) (a : Option Addr) (cap : Nat) (w : World) (_ : Row w a (xs.map Sp.spn)) (l : Nat) (all : List Sp) (J : Bool → List Sp → (Nat → Prop) → World → Prop) (_ : Abd J) (_ : Rnds Tryz.prog l encP all J) (M : Nat → Prop) (_ : ∀ p o, a = some ⟨p, o, none⟩ → ¬ M p) (_ : ∀ k, M k → k < w.heap.size) (pre : List Sp) (_ : J true pre M w) (_ : pre ++ leftM k x xs <+: all),
  Calls Tryz.prog 146 #[.agg #[.bool x.s, .int .i64 x.H.toInt, .int .i64 x.L.toInt, .int .i64 (k : Int)], .slice a xs.length cap, .func (.yield l) #[] #[]] w fun e w' => ∃ b, e = .returned (.bool b) ∧ Ends J all (pre ++ leftM k x xs) M w w' b

theorem Ends.none {J : Bool → List Sp → (Nat → Prop) → World → Prop} {all pre ys : List Sp} {M : Nat → Prop} {w w' : World} (hA : Abd J) (hJ : J true pre M w) (hf : ∀ k, M k → k < w.heap.size) (hb : Below w.heap.size w w') (he : ys = []) : Ends J all (pre ++ ys) M w w' true :=
  ⟨pre, M, hA _ _ _ _ _ hJ (Kpt.ofBelow _ hb), Grw.ofBelow hb hf, fun _ => by rw [he, List.append_nil], fun h => by cases h⟩
theorem pre_left {α : Type} {p a b xs : List α} (h : p ++ (a ++ b) <+: xs) : p ++ a <+: xs := (List.prefix_append (p ++ a) b).trans (by rw [List.append_assoc]; exact h)

set_option maxRecDepth 10000 in
set_option maxHeartbeats 2000000 in
theorem each_step (k : Nat) (IH : ∀ j, j < k → IEach j) : IEach k := by
  intro x hx hk xs hxs hl a cap w hR l all J hA hRn M hdis hfit pre hJ hpre
  have HB := hidP hR
  have HX := hidP hx
  have HXs := hidP hxs
  have HI := hidP IH
  have hk9 : k ≤ 128 := by have := hx.le; omega
  have HK := hidP hk
  have HA := hidP hA
  have HRn := hidP hRn
  have HDis := hidP hdis
  have HFit := hidP hfit
  have HJ := hidP hJ
  have HPre := hidP hpre
  obtain ⟨n, hn⟩ : ∃ n, n = xs.length := ⟨_, rfl⟩
  rw [← hn] at hl ⊢
  have HN := hidP hn
  clear hR hx hxs IH hk hn hA hRn hdis hfit hJ hpre
  refine (callsIn_wide (n := 9)).1 (callsIn_of_wp Tryz.func146 rfl trivial ?_ rfl)
  simp only [Tryz.ntmps146, List.size_toArray, List.length_cons, List.length_nil, Nat.reduceAdd, Nat.reduceSub, Array.replicate_succ, Array.replicate_zero, List.push_toArray, List.append_toArray, List.nil_append, List.cons_append]
  gi_wp2
  obtain ⟨b0, b1, b2, b3⟩ := box_cells w 96 ⟨x.s, x.H, x.L, (k : Int)⟩
  have hBW : Below w.heap.size w (w.alloc (.cells #[.bool x.s, .int .i64 x.H.toInt, .int .i64 x.L.toInt, .int .i64 (k : Int)] 96)) := (Below.refl _ w).alloc (Nat.le_refl _) _
  have hs1 : (w.alloc (.cells #[.bool x.s, .int .i64 x.H.toInt, .int .i64 x.L.toInt, .int .i64 (k : Int)] 96)).heap.size = w.heap.size + 1 := by simp
  generalize (w.alloc (.cells #[.bool x.s, .int .i64 x.H.toInt, .int .i64 x.L.toInt, .int .i64 (k : Int)] 96)) = W1 at *
  have HBW := hidP hBW
  have HB0 := hidP (And.intro b0 (And.intro b1 (And.intro b2 b3)))
  have HS1 := hidP hs1
  clear b0 b1 b2 b3 hBW hs1
  refine wpIn_wide.2 ?_
  go_loopw [7, 14] (fun t7 t14 wr => ∃ (i : Nat) (a7 : Option Addr) (m7 c7 : Nat), i ≤ n ∧ t14 = .int .i64 i ∧ t7 = .slice a7 m7 c7 ∧ m7 = ((xs.take i).filter (fun t => wB t x)).length ∧ OwnR 96 wr (w.heap.size + 1) (.slice a7 m7 c7) (((xs.take i).filter (fun t => wB t x)).map Sp.spn) ∧ (xs.take i).any (wB x) = false ∧ Below (w.heap.size + 1) W1 wr) (fun _ t14 _ => n - (intOf t14).toNat)
  case atStart => exact ⟨0, none, 0, 0, Nat.zero_le _, rfl, rfl, by simp, own_none _ _ _, by simp, Below.refl _ W1⟩
  case round =>
    obtain ⟨i, a7, m7, c7, hi, rfl, rfl, hm7, hown, hany, hbel⟩ := hrel
    have hb' := HB0.out
    have c0 := (hbel.cell (Nat.lt_succ_self w.heap.size)).trans hb'.1
    have c1 := (hbel.cell (Nat.lt_succ_self w.heap.size)).trans hb'.2.1
    have c2 := (hbel.cell (Nat.lt_succ_self w.heap.size)).trans hb'.2.2.1
    have c3 := (hbel.cell (Nat.lt_succ_self w.heap.size)).trans hb'.2.2.2
    clear hb'
    have hzr : w.heap.size + 1 ≤ wr.heap.size := by have := hbel.size; rw [HS1.out] at this; exact this
    have hzq : w.heap.size < wr.heap.size := hzr
    have HOw := hidP hown
    have HAny := hidP hany
    have HBel := hidP hbel
    have HM7 := hidP hm7
    have hm9 : m7 ≤ 300 := by rw [hm7]; exact Nat.le_trans (List.length_filter_le _ _) (by rw [List.length_take]; omega)
    have HBr := hidP (HBW.out.trans (hbel.mono (Nat.le_succ _)))
    clear hown hany hm7
    by_cases hlt : i < n
    · obtain ⟨p, o, t, rfl, hp, hq, e0, e1, e2, e3⟩ := HB.out.spn i (by rw [← HN.out]; exact hlt)
      have hpr : p < w.heap.size + 1 := by omega
      have d0 := (hbel.cell hpr).trans ((HBW.out.cell hp).trans e0)
      have d1 := (hbel.cell hpr).trans ((HBW.out.cell hp).trans e1)
      have d2 := (hbel.cell hpr).trans ((HBW.out.cell hp).trans e2)
      have d3 := (hbel.cell hpr).trans ((HBW.out.cell hp).trans e3)
      have HQ := hidP hq
      have ht : t.ok := HXs.out t (List.mem_of_getElem? hq)
      have hw1 : ∀ wx, Calls Tryz.prog 53 #[.agg #[.bool x.s, .int .i64 x.H.toInt, .int .i64 x.L.toInt, .int .i64 (k : Int)], .agg #[.bool t.s, .int .i64 t.H.toInt, .int .i64 t.L.toInt, .int .i64 (t.n : Int)]] wx fun e w' => e = .returned (.bool (wB x t)) ∧ Below wx.heap.size wx w' := fun wx => by
        have h := wBi (x := x) ht wx
        rw [HK.out] at h; exact h
      have hw2 : ∀ wx, Calls Tryz.prog 53 #[.agg #[.bool t.s, .int .i64 t.H.toInt, .int .i64 t.L.toInt, .int .i64 (t.n : Int)], .agg #[.bool x.s, .int .i64 x.H.toInt, .int .i64 x.L.toInt, .int .i64 (k : Int)]] wx fun e w' => e = .returned (.bool (wB t x)) ∧ Below wx.heap.size wx w' := fun wx => by
        have h := wBi (x := t) HX.out wx
        rw [HK.out] at h; exact h
      have HW1 := hidP hw1
      have HW2 := hidP hw2
      have HBx := hidP (box_cells wr 96 ⟨t.s, t.H, t.L, (t.n : Int)⟩)
      clear e0 e1 e2 e3 hq ht hw1 hw2 hbel
      cases hxt : wB x t
      · rw [hxt] at HW1
        have HAny2 := hidP (any_snoc x t xs i HQ.out HAny.out hxt)
        go_wp2_with fail
        refine (HW1.out _).mono ?_
        rintro e w2 ⟨rfl, hb2⟩
        have hz2 := hb2.size
        rw [heap_size_alloc'] at hz2
        have hr2 : Below wr.heap.size wr w2 := ((Below.refl _ wr).alloc (Nat.le_refl _) _).trans (hb2.mono (by simp))
        have HB2 := hidP (HBel.out.trans (hr2.mono hzr))
        have HO2 := hidP (HOw.out.later hr2)
        have c0' := (hr2.cell hzq).trans c0
        have c1' := (hr2.cell hzq).trans c1
        have c2' := (hr2.cell hzq).trans c2
        have c3' := (hr2.cell hzq).trans c3
        have d0' := (hb2.cell (show wr.heap.size < _ by simp)).trans HBx.out.1
        have d1' := (hb2.cell (show wr.heap.size < _ by simp)).trans HBx.out.2.1
        have d2' := (hb2.cell (show wr.heap.size < _ by simp)).trans HBx.out.2.2.1
        have d3' := (hb2.cell (show wr.heap.size < _ by simp)).trans HBx.out.2.2.2
        have hz2' : w.heap.size + 1 ≤ w2.heap.size := by omega
        clear hb2 hr2 c0 c1 c2 c3 d0 d1 d2 d3 HBx
        cases htx : wB t x
        · rw [htx] at HW2
          have HNe := hidP (near_snoc x t xs i HQ.out)
          rw [htx, if_neg (by simp), List.append_nil] at HNe
          go_wp2_with fail
          refine (HW2.out _).mono ?_
          rintro e w3 ⟨rfl, hr3⟩
          have HB3 := hidP (HB2.out.trans (hr3.mono hz2'))
          have HO3 := hidP (HO2.out.later hr3)
          clear hr3
          go_wp2_with fail
          go_roundw
          case rel => exact ⟨i + 1, a7, m7, c7, by omega, by go_num, rfl, by rw [HNe.out]; exact HM7.out, by rw [HNe.out]; exact HO3.out, HAny2.out, HB3.out⟩
          case measure => simp [intOf]; omega
        · rw [htx] at HW2
          have HNe := hidP (near_snoc x t xs i HQ.out)
          rw [htx, if_pos rfl] at HNe
          go_wp2_with fail
          refine (HW2.out _).mono ?_
          rintro e w3 ⟨rfl, hr3⟩
          have HB3 := hidP (HB2.out.trans (hr3.mono hz2'))
          have HO3 := hidP (HO2.out.later hr3)
          have hz3 : w.heap.size + 1 ≤ w3.heap.size := Nat.le_trans hz2' hr3.size
          have d0 := (hr3.cell (show wr.heap.size < w2.heap.size by omega)).trans d0'
          have d1 := (hr3.cell (show wr.heap.size < w2.heap.size by omega)).trans d1'
          have d2 := (hr3.cell (show wr.heap.size < w2.heap.size by omega)).trans d2'
          have d3 := (hr3.cell (show wr.heap.size < w2.heap.size by omega)).trans d3'
          clear hr3 d0' d1' d2' d3' c0' c1' c2' c3'
          go_wp2_with (at_builtin; refine wpList_appR Tryz.fourS _ rfl (.tmp 24) (.tmp 26) 186 rfl (w.heap.size + 1) a7 m7 c7 1 (((xs.take i).filter (fun t => wB t x)).map Sp.spn) [t.spn] (.slice (some ⟨w3.heap.size, 0, none⟩) 1 1) rfl (by rw [List.length_map]; exact HM7.out) rfl (HO3.out.alloc _) rfl (src_row Tryz.fourS 1 1 rfl (row_one w3 96 t.spn) (by simp)) (by omega) (by simp; omega) ?_; intro a6 c6 w4 ho4 hg4 ht4)
          go_roundw
          case rel => exact ⟨i + 1, a6, m7 + 1, c6, by omega, by go_num, rfl, by rw [HNe.out, List.length_append, ← HM7.out]; rfl, by rw [HNe.out, List.map_append]; exact ho4, HAny2.out, below_appR (HB3.out.alloc hz3 _) (HO3.out.alloc _) (by simp; omega) hg4⟩
          case measure => simp [intOf]; omega
      · rw [hxt] at HW1
        have HE : Hid (leftM k x xs = []) := by
          refine hidP (left_in ?_)
          rw [List.any_eq_true]
          exact ⟨t, List.mem_of_getElem? HQ.out, hxt⟩
        go_wp2_with fail
        refine (HW1.out _).mono ?_
        rintro e w2 ⟨rfl, hb2⟩
        have hr2 : Below wr.heap.size wr w2 := ((Below.refl _ wr).alloc (Nat.le_refl _) _).trans (hb2.mono (by simp))
        have HB2 := hidP (HBr.out.trans (hr2.mono (by omega)))
        clear hb2 hr2
        go_wp2_with fail
        go_ret
        exact ⟨true, rfl, Ends.none HA.out HJ.out HFit.out HB2.out HE.out⟩
    · have hin : i = n := by omega
      subst hin
      clear hbel
      have eT : xs.take i = xs := by rw [HN.out, List.take_length]
      rw [eT] at HM7 HOw HAny
      clear eT
      by_cases hm0 : m7 = 0
      · have HE : Hid (leftM k x xs = [x]) := hidP (left_all HAny.out (List.eq_nil_of_length_eq_zero (by rw [← HM7.out]; exact hm0)))
        subst hm0
        have HP := hidP (prefix_any x.s x.H x.L k hk9)
        have HY : Hid (∀ W', Below w.heap.size w W' → YieldAt Fence.wide 8 Tryz.prog l #[.agg #[.bool x.s, .int .i64 x.H.toInt, .int .i64 x.L.toInt, .int .i64 ((wd x.s : Int) - (k : Int))]] W' fun e W2 => ∃ b M', e = .returned (.bool b) ∧ J b (pre ++ [x]) M' W2 ∧ Grw M M' w W2) := hidP fun W' hb => by
          have h := HRn.out 8 pre x M W' (HA.out _ _ _ _ _ HJ.out (Kpt.ofBelow _ hb)) (fun k hk => Nat.lt_of_lt_of_le (HFit.out k hk) hb.size) (by have := HPre.out; rw [HE.out] at this; exact this)
          unfold encP at h
          rw [HK.out] at h
          refine h.mono ?_
          rintro e W2 ⟨b, M', he, hj, hg⟩
          exact ⟨b, M', he, hj, (Grw.ofBelow hb HFit.out).trans hg⟩
        go_wp2_with fail
        gi_wp2
        refine ⟨trivial, (callsIn_wide.2 (HP.out _)).mono ?_⟩
        rintro e w2 ⟨rfl, hb2⟩
        obtain ⟨fn, tmps, assign, body, hy, hRd⟩ := HY.out w2 (HBr.out.trans (hb2.mono HBr.out.size))
        have HRd := hidP hRd
        clear hRd hb2
        gi_wp2
        refine HRd.out.mono ?_
        rintro e w3 ⟨b, M', rfl, hj, hg⟩
        have HF : Hid (Ends J all (pre ++ leftM k x xs) M w w3 b) := by
          refine hidP ⟨pre ++ [x], M', hj, hg, fun _ => by rw [HE.out], fun _ => ?_⟩
          have h := HPre.out
          rw [HE.out] at h
          exact h
        clear hj hg
        gi_wp2
        go_ret
        exact ⟨b, rfl, HF.out⟩
      · have hne : xs.filter (fun t => wB t x) ≠ [] := fun h => hm0 (by rw [HM7.out, h]; rfl)
        obtain ⟨k', rfl⟩ : ∃ k', k = k' + 1 := by
          cases k with
          | zero => exact absurd (near_zero HK.out hne) (by rw [HAny.out]; simp)
          | succ k' => exact ⟨k', rfl⟩
        have HE := hidP (left_two (k := k') HAny.out hne)
        have hx := HX.out
        have hxn := HK.out
        have hlow := low_ok hx hxn
        have hupp := upp_ok hx hxn
        have HH := hidP (halves_any x.s x.H x.L k' hk9)
        have hxs2 : ∀ t ∈ xs.filter (fun t => wB t x), t.ok := fun t ht => HXs.out t (List.mem_filter.1 ht).1
        have IHl := HI.out k' (Nat.lt_succ_self k') (lowS x k') hlow rfl (xs.filter fun t => wB t x) hxs2 (by rw [← HM7.out]; omega)
        have IHu := HI.out k' (Nat.lt_succ_self k') (uppS x k') hupp rfl (xs.filter fun t => wB t x) hxs2 (by rw [← HM7.out]; omega)
        rw [← HM7.out] at IHl IHu
        obtain ⟨l1, hl1⟩ : ∃ l1, l1 = leftM k' (lowS x k') (xs.filter fun t => wB t x) := ⟨_, rfl⟩
        obtain ⟨l2, hl2⟩ : ∃ l2, l2 = leftM k' (uppS x k') (xs.filter fun t => wB t x) := ⟨_, rfl⟩
        rw [← hl1] at IHl HE
        rw [← hl2] at IHu HE
        obtain ⟨H2, hH2⟩ : ∃ H2, H2 = cH k' (fH (k' + 1) x.H) := ⟨_, rfl⟩
        obtain ⟨L2, hL2⟩ : ∃ L2, L2 = cL k' (fL (k' + 1) x.L) := ⟨_, rfl⟩
        rw [← hH2, ← hL2] at HH
        have hp2 : pre ++ (l1 ++ l2) <+: all := by have := HPre.out; rw [HE.out] at this; exact this
        have HIl : Hid (∀ W, Row W a7 ((xs.filter fun t => wB t x).map Sp.spn) → (∀ p o, a7 = some ⟨p, o, none⟩ → ¬ M p) → Below w.heap.size w W → Calls Tryz.prog 146 #[.agg #[.bool x.s, .int .i64 x.H.toInt, .int .i64 x.L.toInt, .int .i64 (k' : Int)], .slice a7 m7 c7, .func (.yield l) #[] #[]] W fun e w' => ∃ b, e = .returned (.bool b) ∧ Ends J all (pre ++ l1) M W w' b) := hidP fun W h1 h2 h3 =>
          IHl a7 c7 W h1 l all J HA.out HRn.out M h2 (fun k hk => Nat.lt_of_lt_of_le (HFit.out k hk) h3.size) pre (HA.out _ _ _ _ _ HJ.out (Kpt.ofBelow _ h3)) (pre_left hp2)
        have HIu : Hid (∀ W M', Row W a7 ((xs.filter fun t => wB t x).map Sp.spn) → (∀ p o, a7 = some ⟨p, o, none⟩ → ¬ M' p) → (∀ k, M' k → k < W.heap.size) → J true (pre ++ l1) M' W → Calls Tryz.prog 146 #[.agg #[.bool x.s, .int .i64 H2.toInt, .int .i64 L2.toInt, .int .i64 (k' : Int)], .slice a7 m7 c7, .func (.yield l) #[] #[]] W fun e w' => ∃ b, e = .returned (.bool b) ∧ Ends J all (pre ++ l1 ++ l2) M' W w' b) := hidP fun W M' h1 h2 h3 h4 => by
          have h := IHu a7 c7 W h1 l all J HA.out HRn.out M' h2 h3 (pre ++ l1) h4 (by rw [List.append_assoc]; exact hp2)
          rw [hH2, hL2]; exact h
        have hm1 : (((m7 : Nat) : Int) == 0) = false := by rw [beq_eq_false_iff_ne]; omega
        clear hne hx hxn hlow hupp hxs2 IHl IHu hl1 hl2 hm0 hH2 hL2 hp2
        go_wp2_with fail
        refine wpIn_wide.2 ?_
        go_wp2_with fail
        refine (HH.out _).mono ?_
        rintro e w2 ⟨rfl, hb2'⟩
        have hz2 := hb2'.size
        have HOw2 := hidP (HOw.out.later hb2')
        have HB2 := hidP (HBr.out.trans (hb2'.mono (by omega)))
        clear hb2' HOw HBr c0 c1 c2 c3
        go_wp2_with fail
        obtain ⟨p0, p1, p2, p3⟩ := box_cells w2 96 ⟨x.s, x.H, x.L, (k' : Int)⟩
        obtain ⟨q0, q1, q2, q3⟩ := box_cells (w2.alloc (.cells #[.bool x.s, .int .i64 x.H.toInt, .int .i64 x.L.toInt, .int .i64 (k' : Int)] 96)) 96 ⟨x.s, H2, L2, (k' : Int)⟩
        have hbb : Below w2.heap.size w2 ((w2.alloc (.cells #[.bool x.s, .int .i64 x.H.toInt, .int .i64 x.L.toInt, .int .i64 (k' : Int)] 96)).alloc (.cells #[.bool x.s, .int .i64 H2.toInt, .int .i64 L2.toInt, .int .i64 (k' : Int)] 96)) := ((Below.refl _ w2).alloc (Nat.le_refl _) _).alloc (by simp) _
        have hsz : ((w2.alloc (.cells #[.bool x.s, .int .i64 x.H.toInt, .int .i64 x.L.toInt, .int .i64 (k' : Int)] 96)).alloc (.cells #[.bool x.s, .int .i64 H2.toInt, .int .i64 L2.toInt, .int .i64 (k' : Int)] 96)).heap.size = w2.heap.size + 2 := by simp
        simp only [heap_size_alloc'] at q0 q1 q2 q3
        generalize ((w2.alloc (.cells #[.bool x.s, .int .i64 x.H.toInt, .int .i64 x.L.toInt, .int .i64 (k' : Int)] 96)).alloc (.cells #[.bool x.s, .int .i64 H2.toInt, .int .i64 L2.toInt, .int .i64 (k' : Int)] 96)) = W at *
        have hBW2 := HB2.out.trans (hbb.mono (by omega))
        have hOwW := HOw2.out.later hbb
        have hn9 : ∀ p o, a7 = some ⟨p, o, none⟩ → w.heap.size + 1 ≤ p ∧ p < W.heap.size := fun p o h => hOwW.lt p (by rw [h]; rfl)
        have hnM : ∀ p, w.heap.size ≤ p → ¬ M p := fun p h hm => by have := HFit.out p hm; omega
        refine (HIl.out W hOwW.row (fun p o h => hnM p (by have := hn9 p o h; omega)) hBW2).mono ?_
        rintro e w3 ⟨b, rfl, pre1, M1, hj1, hg1, ht1, hf1⟩
        have nM : ¬ M (w2.heap.size + 1) := hnM _ (by omega)
        have lW : w2.heap.size + 1 < W.heap.size := by omega
        have c0 := (hg1.kept.cell (p := ⟨w2.heap.size + 1, 0, none⟩) lW nM).trans q0
        have c1 := (hg1.kept.cell (p := ⟨w2.heap.size + 1, 1, none⟩) lW nM).trans q1
        have c2 := (hg1.kept.cell (p := ⟨w2.heap.size + 1, 2, none⟩) lW nM).trans q2
        have c3 := (hg1.kept.cell (p := ⟨w2.heap.size + 1, 3, none⟩) lW nM).trans q3
        have lW3 : w2.heap.size + 1 < w3.heap.size := Nat.lt_of_lt_of_le lW hg1.kept.size
        have HG1 := hidP ((Grw.ofBelow hBW2 HFit.out).trans hg1)
        cases b
        · have HF : Hid (Ends J all (pre ++ leftM (k' + 1) x xs) M w w3 false) := hidP ⟨pre1, M1, hj1, HG1.out, fun h => (by cases h), fun _ => hf1 rfl⟩
          clear p0 p1 p2 p3 q0 q1 q2 q3 hbb hsz hBW2 hOwW hn9 hnM hj1 hg1 ht1 hf1 nM lW
          go_wp2_with fail
          go_ret
          exact ⟨false, rfl, HF.out⟩
        · have e1 := ht1 rfl
          subst e1
          have HC : Hid (Calls Tryz.prog 146 #[.agg #[.bool x.s, .int .i64 H2.toInt, .int .i64 L2.toInt, .int .i64 (k' : Int)], .slice a7 m7 c7, .func (.yield l) #[] #[]] w3 fun e w' => ∃ b, e = .returned (.bool b) ∧ Ends J all (pre ++ leftM (k' + 1) x xs) M w w' b) := by
            refine hidP ((HIu.out w3 M1 (hOwW.row.kpt hg1.kept fun p o h => hnM p (by have := hn9 p o h; omega)) (fun p o h hm => hnM p (by have := hn9 p o h; omega) (hg1.old p hm (hn9 p o h).2)) hg1.fit hj1).mono ?_)
            rintro e w4 ⟨b, rfl, pre2, M2, hj2, hg2, ht2, hf2⟩
            exact ⟨b, rfl, pre2, M2, hj2, HG1.out.trans hg2, fun h => by rw [ht2 h, HE.out, List.append_assoc], hf2⟩
          clear p0 p1 p2 p3 q0 q1 q2 q3 hbb hsz hBW2 hOwW hn9 hnM hj1 hg1 ht1 hf1 nM lW
          go_wp2_with fail
          refine HC.out.mono ?_
          rintro e w4 ⟨b, rfl, h4⟩
          have H4 := hidP h4
          clear h4
          go_wp2_with fail
          go_ret
          exact ⟨b, rfl, H4.out⟩
theorem each_all (k : Nat) : IEach k := Nat.strongRecOn k fun k ih => each_step k ih

end Go.Proofs.YtdbcdichmmcnbaaGreat
