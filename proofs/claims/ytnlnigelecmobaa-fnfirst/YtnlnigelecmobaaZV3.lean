/-
  For every code the law FnFirst answers yes: the first free prefix of the drawn ones lies in the pool, overlaps none that is used, and no lesser one of its bits is free; one is free just if some are counted; no condition.
-/
import Derived.Test.YtnlnigelecmobaaZV2
import Derived.Deep.RegionHeld3
import Derived.Deep.RegionWith
import Derived.Deep.DeepCutAuto
import Derived.ProofKit
import Derived.OpenShut
import Derived.Lib.SmallJoins
import Derived.Carry
import Derived.Deep.Slices
import Derived.ChangeMaps5
import Derived.ChangeSame
namespace Go.Proofs.Ytnlnigelecmobaa
open Go.RowKit

attribute [local go_sem] Oper.semAt_some

theorem wBi {x y : Sp} (hy : y.ok) (w : World) : Calls Try.prog 21 #[.agg #[.bool x.s, .int .i64 x.H.toInt, .int .i64 x.L.toInt, .int .i64 x.n], .agg #[.bool y.s, .int .i64 y.H.toInt, .int .i64 y.L.toInt, .int .i64 y.n]] w fun e w' => e = .returned (.bool (wB x y)) ∧ Below w.heap.size w w' := within_any x.s x.H x.L x.n y.s y.H y.L y.n hy.le w

/-- A span is handed out as its prefix. -/
def encP (x : Sp) : Array Value := #[.agg #[.bool x.s, .int .i64 x.H.toInt, .int .i64 x.L.toInt, .int .i64 ((wd x.s : Int) - x.n)]]

theorem Row.kpt {w w' : World} {a : Option Addr} {ps : List Pf} {M : Nat → Prop} (h : Row w a ps) (hk : Kpt (fun k => ¬ M k) w w') (hne : ∀ p o, a = some ⟨p, o, none⟩ → ¬ M p) : Row w' a ps := fun j hj => by
  obtain ⟨p, o, q, ha, hp, hq, c0, c1, c2, c3⟩ := h j hj
  have e : ∀ i, w'.cell? ⟨p, i, none⟩ = w.cell? ⟨p, i, none⟩ := fun i => World.cell?_of_block (hk.block p hp (hne p o ha))
  exact ⟨p, o, q, ha, Nat.lt_of_lt_of_le hp hk.size, hq, (e _).trans c0, (e _).trans c1, (e _).trans c2, (e _).trans c3⟩

def IEach (k : Nat) : Prop := ∀ (x : Sp) (_ : x.ok) (_ : x.n = k) (xs : List Sp) (_ : ∀ t ∈ xs, t.ok) (_ : xs.length ≤ 300) (a : Option Addr) (cap : Nat) (w : World) (_ : Row w a (xs.map Sp.spn)) (l : Nat) (all : List Sp) (J : Bool → List Sp → (Nat → Prop) → World → Prop) (_ : Abd J) (_ : Rnds Try.prog l encP all J) (M : Nat → Prop) (_ : ∀ p o, a = some ⟨p, o, none⟩ → ¬ M p) (_ : ∀ k, M k → k < w.heap.size) (pre : List Sp) (_ : J true pre M w) (_ : pre ++ leftM k x xs <+: all),
  Calls Try.prog 43 #[.agg #[.bool x.s, .int .i64 x.H.toInt, .int .i64 x.L.toInt, .int .i64 (k : Int)], .slice a xs.length cap, .func (.yield l) #[] #[]] w fun e w' => ∃ b, e = .returned (.bool b) ∧ Ends J all (pre ++ leftM k x xs) M w w' b

theorem Ends.none {J : Bool → List Sp → (Nat → Prop) → World → Prop} {all pre ys : List Sp} {M : Nat → Prop} {w w' : World} (hA : Abd J) (hJ : J true pre M w) (hf : ∀ k, M k → k < w.heap.size) (hb : Below w.heap.size w w') (he : ys = []) : Ends J all (pre ++ ys) M w w' true :=
  ⟨pre, M, hA _ _ _ _ _ hJ (Kpt.ofBelow _ hb), Grw.ofBelow hb hf, fun _ => by rw [he, List.append_nil], fun h => by cases h⟩
theorem pre_left {α : Type} {p a b xs : List α} (h : p ++ (a ++ b) <+: xs) : p ++ a <+: xs := (List.prefix_append (p ++ a) b).trans (by rw [List.append_assoc]; exact h)

set_option maxRecDepth 10000 in
set_option maxHeartbeats 2000000 in
theorem each_step (k : Nat) (IH : ∀ j, j < k → IEach j) : IEach k := by
  intro x hx hk xs hxs hl a cap w hR l all J hA hRn M hdis hfit pre hJ hpre
  have HB := hidP hR
  have HX := hidP hx
  have HXs := hidP hxs
  have HI := hidP IH
  have hk9 : k ≤ 128 := by have := hx.le; omega
  have HK := hidP hk
  have HA := hidP hA
  have HRn := hidP hRn
  have HDis := hidP hdis
  have HFit := hidP hfit
  have HJ := hidP hJ
  have HPre := hidP hpre
  obtain ⟨n, hn⟩ : ∃ n, n = xs.length := ⟨_, rfl⟩
  rw [← hn] at hl ⊢
  have HN := hidP hn
  clear hR hx hxs IH hk hn hA hRn hdis hfit hJ hpre
  refine (callsIn_wide (n := 9)).1 (callsIn_of_wp Try.func43 rfl trivial ?_ rfl)
  simp only [Try.ntmps43, List.size_toArray, List.length_cons, List.length_nil, Nat.reduceAdd, Nat.reduceSub, Array.replicate_succ, Array.replicate_zero, List.push_toArray, List.append_toArray, List.nil_append, List.cons_append]
  gi_wp2
  obtain ⟨b0, b1, b2, b3⟩ := box_cells w 46 ⟨x.s, x.H, x.L, (k : Int)⟩
  have hBW : Below w.heap.size w (w.alloc (.cells #[.bool x.s, .int .i64 x.H.toInt, .int .i64 x.L.toInt, .int .i64 (k : Int)] 46)) := (Below.refl _ w).alloc (Nat.le_refl _) _
  have hs1 : (w.alloc (.cells #[.bool x.s, .int .i64 x.H.toInt, .int .i64 x.L.toInt, .int .i64 (k : Int)] 46)).heap.size = w.heap.size + 1 := by simp
  generalize (w.alloc (.cells #[.bool x.s, .int .i64 x.H.toInt, .int .i64 x.L.toInt, .int .i64 (k : Int)] 46)) = W1 at *
  have HBW := hidP hBW
  have HB0 := hidP (And.intro b0 (And.intro b1 (And.intro b2 b3)))
  have HS1 := hidP hs1
  clear b0 b1 b2 b3 hBW hs1
  refine wpIn_wide.2 ?_
  go_loopw [7, 14] (fun t7 t14 wr => ∃ (i : Nat) (a7 : Option Addr) (m7 c7 : Nat), i ≤ n ∧ t14 = .int .i64 i ∧ t7 = .slice a7 m7 c7 ∧ m7 = ((xs.take i).filter (fun t => wB t x)).length ∧ OwnR 46 wr (w.heap.size + 1) (.slice a7 m7 c7) (((xs.take i).filter (fun t => wB t x)).map Sp.spn) ∧ (xs.take i).any (wB x) = false ∧ Below (w.heap.size + 1) W1 wr) (fun _ t14 _ => n - (intOf t14).toNat)
  case atStart => exact ⟨0, none, 0, 0, Nat.zero_le _, rfl, rfl, by simp, own_none _ _ _, by simp, Below.refl _ W1⟩
  case round =>
    obtain ⟨i, a7, m7, c7, hi, rfl, rfl, hm7, hown, hany, hbel⟩ := hrel
    have hb' := HB0.out
    have c0 := (hbel.cell (Nat.lt_succ_self w.heap.size)).trans hb'.1
    have c1 := (hbel.cell (Nat.lt_succ_self w.heap.size)).trans hb'.2.1
    have c2 := (hbel.cell (Nat.lt_succ_self w.heap.size)).trans hb'.2.2.1
    have c3 := (hbel.cell (Nat.lt_succ_self w.heap.size)).trans hb'.2.2.2
    clear hb'
    have hzr : w.heap.size + 1 ≤ wr.heap.size := by have := hbel.size; rw [HS1.out] at this; exact this
    have hzq : w.heap.size < wr.heap.size := hzr
    have HOw := hidP hown
    have HAny := hidP hany
    have HBel := hidP hbel
    have HM7 := hidP hm7
    have hm9 : m7 ≤ 300 := by rw [hm7]; exact Nat.le_trans (List.length_filter_le _ _) (by rw [List.length_take]; omega)
    have HBr := hidP (HBW.out.trans (hbel.mono (Nat.le_succ _)))
    clear hown hany hm7
    by_cases hlt : i < n
    · obtain ⟨p, o, t, rfl, hp, hq, e0, e1, e2, e3⟩ := HB.out.spn i (by rw [← HN.out]; exact hlt)
      have hpr : p < w.heap.size + 1 := by omega
      have d0 := (hbel.cell hpr).trans ((HBW.out.cell hp).trans e0)
      have d1 := (hbel.cell hpr).trans ((HBW.out.cell hp).trans e1)
      have d2 := (hbel.cell hpr).trans ((HBW.out.cell hp).trans e2)
      have d3 := (hbel.cell hpr).trans ((HBW.out.cell hp).trans e3)
      have HQ := hidP hq
      have ht : t.ok := HXs.out t (List.mem_of_getElem? hq)
      have hw1 : ∀ wx, Calls Try.prog 21 #[.agg #[.bool x.s, .int .i64 x.H.toInt, .int .i64 x.L.toInt, .int .i64 (k : Int)], .agg #[.bool t.s, .int .i64 t.H.toInt, .int .i64 t.L.toInt, .int .i64 (t.n : Int)]] wx fun e w' => e = .returned (.bool (wB x t)) ∧ Below wx.heap.size wx w' := fun wx => by
        have h := wBi (x := x) ht wx
        rw [HK.out] at h; exact h
      have hw2 : ∀ wx, Calls Try.prog 21 #[.agg #[.bool t.s, .int .i64 t.H.toInt, .int .i64 t.L.toInt, .int .i64 (t.n : Int)], .agg #[.bool x.s, .int .i64 x.H.toInt, .int .i64 x.L.toInt, .int .i64 (k : Int)]] wx fun e w' => e = .returned (.bool (wB t x)) ∧ Below wx.heap.size wx w' := fun wx => by
        have h := wBi (x := t) HX.out wx
        rw [HK.out] at h; exact h
      have HW1 := hidP hw1
      have HW2 := hidP hw2
      have HBx := hidP (box_cells wr 46 ⟨t.s, t.H, t.L, (t.n : Int)⟩)
      clear e0 e1 e2 e3 hq ht hw1 hw2 hbel
      cases hxt : wB x t
      · rw [hxt] at HW1
        have HAny2 := hidP (any_snoc x t xs i HQ.out HAny.out hxt)
        go_wp2_with fail
        refine (HW1.out _).mono ?_
        rintro e w2 ⟨rfl, hb2⟩
        have hz2 := hb2.size
        rw [heap_size_alloc'] at hz2
        have hr2 : Below wr.heap.size wr w2 := ((Below.refl _ wr).alloc (Nat.le_refl _) _).trans (hb2.mono (by simp))
        have HB2 := hidP (HBel.out.trans (hr2.mono hzr))
        have HO2 := hidP (HOw.out.later hr2)
        have c0' := (hr2.cell hzq).trans c0
        have c1' := (hr2.cell hzq).trans c1
        have c2' := (hr2.cell hzq).trans c2
        have c3' := (hr2.cell hzq).trans c3
        have d0' := (hb2.cell (show wr.heap.size < _ by simp)).trans HBx.out.1
        have d1' := (hb2.cell (show wr.heap.size < _ by simp)).trans HBx.out.2.1
        have d2' := (hb2.cell (show wr.heap.size < _ by simp)).trans HBx.out.2.2.1
        have d3' := (hb2.cell (show wr.heap.size < _ by simp)).trans HBx.out.2.2.2
        have hz2' : w.heap.size + 1 ≤ w2.heap.size := by omega
        clear hb2 hr2 c0 c1 c2 c3 d0 d1 d2 d3 HBx
        cases htx : wB t x
        · rw [htx] at HW2
          have HNe := hidP (near_snoc x t xs i HQ.out)
          rw [htx, if_neg (by simp), List.append_nil] at HNe
          go_wp2_with fail
          refine (HW2.out _).mono ?_
          rintro e w3 ⟨rfl, hr3⟩
          have HB3 := hidP (HB2.out.trans (hr3.mono hz2'))
          have HO3 := hidP (HO2.out.later hr3)
          clear hr3
          go_wp2_with fail
          go_roundw
          case rel => exact ⟨i + 1, a7, m7, c7, by omega, by go_num, rfl, by rw [HNe.out]; exact HM7.out, by rw [HNe.out]; exact HO3.out, HAny2.out, HB3.out⟩
          case measure => simp [intOf]; omega
        · rw [htx] at HW2
          have HNe := hidP (near_snoc x t xs i HQ.out)
          rw [htx, if_pos rfl] at HNe
          go_wp2_with fail
          refine (HW2.out _).mono ?_
          rintro e w3 ⟨rfl, hr3⟩
          have HB3 := hidP (HB2.out.trans (hr3.mono hz2'))
          have HO3 := hidP (HO2.out.later hr3)
          have hz3 : w.heap.size + 1 ≤ w3.heap.size := Nat.le_trans hz2' hr3.size
          have d0 := (hr3.cell (show wr.heap.size < w2.heap.size by omega)).trans d0'
          have d1 := (hr3.cell (show wr.heap.size < w2.heap.size by omega)).trans d1'
          have d2 := (hr3.cell (show wr.heap.size < w2.heap.size by omega)).trans d2'
          have d3 := (hr3.cell (show wr.heap.size < w2.heap.size by omega)).trans d3'
          clear hr3 d0' d1' d2' d3' c0' c1' c2' c3'
          go_wp2_with (at_builtin; refine wpList_appR Try.fourS _ rfl (.tmp 24) (.tmp 26) 71 rfl (w.heap.size + 1) a7 m7 c7 1 (((xs.take i).filter (fun t => wB t x)).map Sp.spn) [t.spn] (.slice (some ⟨w3.heap.size, 0, none⟩) 1 1) rfl (by rw [List.length_map]; exact HM7.out) rfl (HO3.out.alloc _) rfl (src_row Try.fourS 1 1 rfl (row_one w3 46 t.spn) (by simp)) (by omega) (by simp; omega) ?_; intro a6 c6 w4 ho4 hg4 ht4)
          go_roundw
          case rel => exact ⟨i + 1, a6, m7 + 1, c6, by omega, by go_num, rfl, by rw [HNe.out, List.length_append, ← HM7.out]; rfl, by rw [HNe.out, List.map_append]; exact ho4, HAny2.out, below_appR (HB3.out.alloc hz3 _) (HO3.out.alloc _) (by simp; omega) hg4⟩
          case measure => simp [intOf]; omega
      · rw [hxt] at HW1
        have HE : Hid (leftM k x xs = []) := by
          refine hidP (left_in ?_)
          rw [List.any_eq_true]
          exact ⟨t, List.mem_of_getElem? HQ.out, hxt⟩
        go_wp2_with fail
        refine (HW1.out _).mono ?_
        rintro e w2 ⟨rfl, hb2⟩
        have hr2 : Below wr.heap.size wr w2 := ((Below.refl _ wr).alloc (Nat.le_refl _) _).trans (hb2.mono (by simp))
        have HB2 := hidP (HBr.out.trans (hr2.mono (by omega)))
        clear hb2 hr2
        go_wp2_with fail
        go_ret
        exact ⟨true, rfl, Ends.none HA.out HJ.out HFit.out HB2.out HE.out⟩
    · have hin : i = n := by omega
      subst hin
      clear hbel
      have eT : xs.take i = xs := by rw [HN.out, List.take_length]
      rw [eT] at HM7 HOw HAny
      clear eT
      by_cases hm0 : m7 = 0
      · have HE : Hid (leftM k x xs = [x]) := hidP (left_all HAny.out (List.eq_nil_of_length_eq_zero (by rw [← HM7.out]; exact hm0)))
        subst hm0
        have HP := hidP (prefix_any x.s x.H x.L k hk9)
        have HY : Hid (∀ W', Below w.heap.size w W' → YieldAt Fence.wide 8 Try.prog l #[.agg #[.bool x.s, .int .i64 x.H.toInt, .int .i64 x.L.toInt, .int .i64 ((wd x.s : Int) - (k : Int))]] W' fun e W2 => ∃ b M', e = .returned (.bool b) ∧ J b (pre ++ [x]) M' W2 ∧ Grw M M' w W2) := hidP fun W' hb => by
          have h := HRn.out 8 pre x M W' (HA.out _ _ _ _ _ HJ.out (Kpt.ofBelow _ hb)) (fun k hk => Nat.lt_of_lt_of_le (HFit.out k hk) hb.size) (by have := HPre.out; rw [HE.out] at this; exact this)
          unfold encP at h
          rw [HK.out] at h
          refine h.mono ?_
          rintro e W2 ⟨b, M', he, hj, hg⟩
          exact ⟨b, M', he, hj, (Grw.ofBelow hb HFit.out).trans hg⟩
        go_wp2_with fail
        gi_wp2
        refine ⟨trivial, (callsIn_wide.2 (HP.out _)).mono ?_⟩
        rintro e w2 ⟨rfl, hb2⟩
        obtain ⟨fn, tmps, assign, body, hy, hRd⟩ := HY.out w2 (HBr.out.trans (hb2.mono HBr.out.size))
        have HRd := hidP hRd
        clear hRd hb2
        gi_wp2
        refine HRd.out.mono ?_
        rintro e w3 ⟨b, M', rfl, hj, hg⟩
        have HF : Hid (Ends J all (pre ++ leftM k x xs) M w w3 b) := by
          refine hidP ⟨pre ++ [x], M', hj, hg, fun _ => by rw [HE.out], fun _ => ?_⟩
          have h := HPre.out
          rw [HE.out] at h
          exact h
        clear hj hg
        gi_wp2
        go_ret
        exact ⟨b, rfl, HF.out⟩
      · have hne : xs.filter (fun t => wB t x) ≠ [] := fun h => hm0 (by rw [HM7.out, h]; rfl)
        obtain ⟨k', rfl⟩ : ∃ k', k = k' + 1 := by
          cases k with
          | zero => exact absurd (near_zero HK.out hne) (by rw [HAny.out]; simp)
          | succ k' => exact ⟨k', rfl⟩
        have HE := hidP (left_two (k := k') HAny.out hne)
        have hx := HX.out
        have hxn := HK.out
        have hlow := low_ok hx hxn
        have hupp := upp_ok hx hxn
        have HH := hidP (halves_any x.s x.H x.L k' hk9)
        have hxs2 : ∀ t ∈ xs.filter (fun t => wB t x), t.ok := fun t ht => HXs.out t (List.mem_filter.1 ht).1
        have IHl := HI.out k' (Nat.lt_succ_self k') (lowS x k') hlow rfl (xs.filter fun t => wB t x) hxs2 (by rw [← HM7.out]; omega)
        have IHu := HI.out k' (Nat.lt_succ_self k') (uppS x k') hupp rfl (xs.filter fun t => wB t x) hxs2 (by rw [← HM7.out]; omega)
        rw [← HM7.out] at IHl IHu
        obtain ⟨l1, hl1⟩ : ∃ l1, l1 = leftM k' (lowS x k') (xs.filter fun t => wB t x) := ⟨_, rfl⟩
        obtain ⟨l2, hl2⟩ : ∃ l2, l2 = leftM k' (uppS x k') (xs.filter fun t => wB t x) := ⟨_, rfl⟩
        rw [← hl1] at IHl HE
        rw [← hl2] at IHu HE
        obtain ⟨H2, hH2⟩ : ∃ H2, H2 = cH k' (fH (k' + 1) x.H) := ⟨_, rfl⟩
        obtain ⟨L2, hL2⟩ : ∃ L2, L2 = cL k' (fL (k' + 1) x.L) := ⟨_, rfl⟩
        rw [← hH2, ← hL2] at HH
        have hp2 : pre ++ (l1 ++ l2) <+: all := by have := HPre.out; rw [HE.out] at this; exact this
        have HIl : Hid (∀ W, Row W a7 ((xs.filter fun t => wB t x).map Sp.spn) → (∀ p o, a7 = some ⟨p, o, none⟩ → ¬ M p) → Below w.heap.size w W → Calls Try.prog 43 #[.agg #[.bool x.s, .int .i64 x.H.toInt, .int .i64 x.L.toInt, .int .i64 (k' : Int)], .slice a7 m7 c7, .func (.yield l) #[] #[]] W fun e w' => ∃ b, e = .returned (.bool b) ∧ Ends J all (pre ++ l1) M W w' b) := hidP fun W h1 h2 h3 =>
          IHl a7 c7 W h1 l all J HA.out HRn.out M h2 (fun k hk => Nat.lt_of_lt_of_le (HFit.out k hk) h3.size) pre (HA.out _ _ _ _ _ HJ.out (Kpt.ofBelow _ h3)) (pre_left hp2)
        have HIu : Hid (∀ W M', Row W a7 ((xs.filter fun t => wB t x).map Sp.spn) → (∀ p o, a7 = some ⟨p, o, none⟩ → ¬ M' p) → (∀ k, M' k → k < W.heap.size) → J true (pre ++ l1) M' W → Calls Try.prog 43 #[.agg #[.bool x.s, .int .i64 H2.toInt, .int .i64 L2.toInt, .int .i64 (k' : Int)], .slice a7 m7 c7, .func (.yield l) #[] #[]] W fun e w' => ∃ b, e = .returned (.bool b) ∧ Ends J all (pre ++ l1 ++ l2) M' W w' b) := hidP fun W M' h1 h2 h3 h4 => by
          have h := IHu a7 c7 W h1 l all J HA.out HRn.out M' h2 h3 (pre ++ l1) h4 (by rw [List.append_assoc]; exact hp2)
          rw [hH2, hL2]; exact h
        have hm1 : (((m7 : Nat) : Int) == 0) = false := by rw [beq_eq_false_iff_ne]; omega
        clear hne hx hxn hlow hupp hxs2 IHl IHu hl1 hl2 hm0 hH2 hL2 hp2
        go_wp2_with fail
        refine wpIn_wide.2 ?_
        go_wp2_with fail
        refine (HH.out _).mono ?_
        rintro e w2 ⟨rfl, hb2'⟩
        have hz2 := hb2'.size
        have HOw2 := hidP (HOw.out.later hb2')
        have HB2 := hidP (HBr.out.trans (hb2'.mono (by omega)))
        clear hb2' HOw HBr c0 c1 c2 c3
        go_wp2_with fail
        obtain ⟨p0, p1, p2, p3⟩ := box_cells w2 46 ⟨x.s, x.H, x.L, (k' : Int)⟩
        obtain ⟨q0, q1, q2, q3⟩ := box_cells (w2.alloc (.cells #[.bool x.s, .int .i64 x.H.toInt, .int .i64 x.L.toInt, .int .i64 (k' : Int)] 46)) 46 ⟨x.s, H2, L2, (k' : Int)⟩
        have hbb : Below w2.heap.size w2 ((w2.alloc (.cells #[.bool x.s, .int .i64 x.H.toInt, .int .i64 x.L.toInt, .int .i64 (k' : Int)] 46)).alloc (.cells #[.bool x.s, .int .i64 H2.toInt, .int .i64 L2.toInt, .int .i64 (k' : Int)] 46)) := ((Below.refl _ w2).alloc (Nat.le_refl _) _).alloc (by simp) _
        have hsz : ((w2.alloc (.cells #[.bool x.s, .int .i64 x.H.toInt, .int .i64 x.L.toInt, .int .i64 (k' : Int)] 46)).alloc (.cells #[.bool x.s, .int .i64 H2.toInt, .int .i64 L2.toInt, .int .i64 (k' : Int)] 46)).heap.size = w2.heap.size + 2 := by simp
        simp only [heap_size_alloc'] at q0 q1 q2 q3
        generalize ((w2.alloc (.cells #[.bool x.s, .int .i64 x.H.toInt, .int .i64 x.L.toInt, .int .i64 (k' : Int)] 46)).alloc (.cells #[.bool x.s, .int .i64 H2.toInt, .int .i64 L2.toInt, .int .i64 (k' : Int)] 46)) = W at *
        have hBW2 := HB2.out.trans (hbb.mono (by omega))
        have hOwW := HOw2.out.later hbb
        have hn9 : ∀ p o, a7 = some ⟨p, o, none⟩ → w.heap.size + 1 ≤ p ∧ p < W.heap.size := fun p o h => hOwW.lt p (by rw [h]; rfl)
        have hnM : ∀ p, w.heap.size ≤ p → ¬ M p := fun p h hm => by have := HFit.out p hm; omega
        refine (HIl.out W hOwW.row (fun p o h => hnM p (by have := hn9 p o h; omega)) hBW2).mono ?_
        rintro e w3 ⟨b, rfl, pre1, M1, hj1, hg1, ht1, hf1⟩
        have nM : ¬ M (w2.heap.size + 1) := hnM _ (by omega)
        have lW : w2.heap.size + 1 < W.heap.size := by omega
        have c0 := (hg1.kept.cell (p := ⟨w2.heap.size + 1, 0, none⟩) lW nM).trans q0
        have c1 := (hg1.kept.cell (p := ⟨w2.heap.size + 1, 1, none⟩) lW nM).trans q1
        have c2 := (hg1.kept.cell (p := ⟨w2.heap.size + 1, 2, none⟩) lW nM).trans q2
        have c3 := (hg1.kept.cell (p := ⟨w2.heap.size + 1, 3, none⟩) lW nM).trans q3
        have lW3 : w2.heap.size + 1 < w3.heap.size := Nat.lt_of_lt_of_le lW hg1.kept.size
        have HG1 := hidP ((Grw.ofBelow hBW2 HFit.out).trans hg1)
        cases b
        · have HF : Hid (Ends J all (pre ++ leftM (k' + 1) x xs) M w w3 false) := hidP ⟨pre1, M1, hj1, HG1.out, fun h => (by cases h), fun _ => hf1 rfl⟩
          clear p0 p1 p2 p3 q0 q1 q2 q3 hbb hsz hBW2 hOwW hn9 hnM hj1 hg1 ht1 hf1 nM lW
          go_wp2_with fail
          go_ret
          exact ⟨false, rfl, HF.out⟩
        · have e1 := ht1 rfl
          subst e1
          have HC : Hid (Calls Try.prog 43 #[.agg #[.bool x.s, .int .i64 H2.toInt, .int .i64 L2.toInt, .int .i64 (k' : Int)], .slice a7 m7 c7, .func (.yield l) #[] #[]] w3 fun e w' => ∃ b, e = .returned (.bool b) ∧ Ends J all (pre ++ leftM (k' + 1) x xs) M w w' b) := by
            refine hidP ((HIu.out w3 M1 (hOwW.row.kpt hg1.kept fun p o h => hnM p (by have := hn9 p o h; omega)) (fun p o h hm => hnM p (by have := hn9 p o h; omega) (hg1.old p hm (hn9 p o h).2)) hg1.fit hj1).mono ?_)
            rintro e w4 ⟨b, rfl, pre2, M2, hj2, hg2, ht2, hf2⟩
            exact ⟨b, rfl, pre2, M2, hj2, HG1.out.trans hg2, fun h => by rw [ht2 h, HE.out, List.append_assoc], hf2⟩
          clear p0 p1 p2 p3 q0 q1 q2 q3 hbb hsz hBW2 hOwW hn9 hnM hj1 hg1 ht1 hf1 nM lW
          go_wp2_with fail
          refine HC.out.mono ?_
          rintro e w4 ⟨b, rfl, h4⟩
          have H4 := hidP h4
          clear h4
          go_wp2_with fail
          go_ret
          exact ⟨b, rfl, H4.out⟩
theorem each_all (k : Nat) : IEach k := Nat.strongRecOn k fun k ih => each_step k ih

end Go.Proofs.Ytnlnigelecmobaa
namespace Go.Proofs.Ytnlnigelecmobaa
open Go.RowKit

/-- The four cells of a box. -/
def Box4 (w : World) (B : Nat) (p : Pf) : Prop := w.cell? ⟨B, 0, none⟩ = some (.bool p.s) ∧ w.cell? ⟨B, 1, none⟩ = some (.int .i64 p.H.toInt) ∧ w.cell? ⟨B, 2, none⟩ = some (.int .i64 p.L.toInt) ∧ w.cell? ⟨B, 3, none⟩ = some (.int .i64 p.b)
theorem Box4.kpt {w w' : World} {M : Nat → Prop} {B : Nat} {p : Pf} (h : Box4 w B p) (hk : Kpt M w w') (hB : B < w.heap.size) (hm : M B) : Box4 w' B p :=
  have e : ∀ i, w'.cell? ⟨B, i, none⟩ = w.cell? ⟨B, i, none⟩ := fun _ => World.cell?_of_block (hk.block B hB hm)
  ⟨(e _).trans h.1, (e _).trans h.2.1, (e _).trans h.2.2.1, (e _).trans h.2.2.2⟩
theorem Box4.later {w w' : World} {B : Nat} {p : Pf} (h : Box4 w B p) (hk : Below w.heap.size w w') (hB : B < w.heap.size) : Box4 w' B p := h.kpt (Kpt.ofBelow (fun _ => True) hk) hB trivial

/-- The program's leftOf, of p and a row, hands out ys. -/
def LeftGives (p : Pf) (a : Option Addr) (n cap : Nat) (w0 : World) (ys : List Sp) : Prop := ∀ (w : World) (Bp Bl : Nat), Below w0.heap.size w0 w → Box4 w Bp p → w.cell? ⟨Bl, 0, none⟩ = some (.slice a n cap) → Bp < w.heap.size → Bl < w.heap.size →
  Iter Try.prog 41 #[.pointer (some ⟨Bp, 0, none⟩), .pointer (some ⟨Bl, 0, none⟩)] encP ys (fun k => k < w0.heap.size ∨ k = Bp ∨ k = Bl) w

set_option maxHeartbeats 1000000 in
theorem leftOf_any (p : Pf) (a : Option Addr) (n cap : Nat) (w : World) :
    Calls Try.prog 20 #[.agg #[.bool p.s, .int .i64 p.H.toInt, .int .i64 p.L.toInt, .int .i64 p.b], .slice a n cap] w fun e w' => e = .returned (.func (.func 41) #[] #[.pointer (some ⟨w.heap.size, 0, none⟩), .pointer (some ⟨w.heap.size + 1, 0, none⟩)]) ∧ w' = (w.alloc (.cells #[.bool p.s, .int .i64 p.H.toInt, .int .i64 p.L.toInt, .int .i64 p.b] 27)).alloc (.cells #[.slice a n cap] 28) := by
  go_enter Try.func20, Try.ntmps20
  go_wp2
  go_ret
  exact ⟨rfl, rfl⟩

set_option maxRecDepth 10000 in
set_option maxHeartbeats 2000000 in
theorem left_yes (x : Sp) (hx : x.ok) (a : Option Addr) (cap : Nat) (xs : List Sp) (hxs : ∀ t ∈ xs, t.ok) (w0 : World) (hB : Row w0 a (xs.map Sp.pre)) (hl : xs.length ≤ 300) : LeftGives x.pre a xs.length cap w0 (leftM x.n x xs) := by
  intro w Bp Bl hw hbp hbl hp hq l J M W hk hRM hfit hA hRn hJ
  have HP := hidP (spanOf_yes x.s x.H x.L ((wd x.s : Int) - x.n) x.n (by omega) hx.pok)
  have hS : ∀ wx, Below W.heap.size W wx → Calls Try.prog 42 #[.slice a xs.length cap] wx fun e w' => ∃ g, e = .returned (.tuple #[.slice (some ⟨g, 0, none⟩) xs.length xs.length, .bool true]) ∧ OwnR 46 w' wx.heap.size (.slice (some ⟨g, 0, none⟩) xs.length xs.length) (xs.map Sp.spn) ∧ Below wx.heap.size wx w' := fun wx hb => by
    have hR : Row wx a (xs.map Sp.pre) := (hB.later (hw.trans ((hk.mono (N := fun k => k < w0.heap.size) fun k h => Or.inl h).below hw.size))).later hb
    have h := spansOf_short a cap (xs.map Sp.pre) wx hR (by rw [List.length_map]; exact hl)
    have hr := right_pre xs hxs hl
    unfold rightP at hr
    rw [Bool.and_eq_true] at hr
    rw [List.length_map] at h
    refine h.mono ?_
    rintro e w' ⟨h1 | h1, hb⟩
    · obtain ⟨_, g, rfl, ho⟩ := h1
      rw [sp_pre] at ho
      exact ⟨g, rfl, ho, hb⟩
    · rw [hr.1] at h1; cases h1.1
  have HS := hidP hS
  have hbW : Box4 W Bp x.pre := hbp.kpt hk hp (Or.inr (Or.inl rfl))
  have hcl : W.cell? ⟨Bl, 0, none⟩ = some (.slice a xs.length cap) := (hk.cell (p := ⟨Bl, 0, none⟩) hq (Or.inr (Or.inr rfl))).trans hbl
  have hpW : Bp < W.heap.size := Nat.lt_of_lt_of_le hp hk.size
  have hqW : Bl < W.heap.size := Nat.lt_of_lt_of_le hq hk.size
  have HE : Hid (∀ (g : Nat) (w1 : World), OwnR 46 w1 W.heap.size (.slice (some ⟨g, 0, none⟩) xs.length xs.length) (xs.map Sp.spn) → Below W.heap.size W w1 → Calls Try.prog 43 #[.agg #[.bool x.s, .int .i64 x.H.toInt, .int .i64 x.L.toInt, .int .i64 (x.n : Int)], .slice (some ⟨g, 0, none⟩) xs.length xs.length, .func (.yield l) #[] #[]] w1 fun e w' => ∃ b, e = .returned (.bool b) ∧ Ends J (leftM x.n x xs) (leftM x.n x xs) M W w' b) := hidP fun g w1 ho hb => by
    refine (each_all x.n x hx rfl xs hxs hl (some ⟨g, 0, none⟩) xs.length w1 ho.row l (leftM x.n x xs) J hA hRn M (fun p o h hm => ?_) (fun k hk => Nat.lt_of_lt_of_le (hfit k hk) hb.size) [] (hA _ _ _ _ _ hJ (Kpt.ofBelow _ hb)) (List.prefix_refl _)).mono ?_
    · cases h
      have h1 := (ho.lt g rfl).1
      have h2 := hfit g hm
      omega
    · rintro e w' ⟨b, rfl, pre, M', hj, hg, ht, hf⟩
      exact ⟨b, rfl, pre, M', hj, (Grw.ofBelow hb hfit).trans hg, ht, hf⟩
  obtain ⟨c0, c1, c2, c3⟩ := hbW
  dsimp only [Sp.pre] at c0 c1 c2 c3
  clear hS hbp hbl hk hRM hA hRn hJ hB hxs hx hw hp hq hfit
  obtain ⟨n, hn⟩ : ∃ n, n = xs.length := ⟨_, rfl⟩
  rw [← hn] at HS hcl HE hl
  clear hn
  go_enter Try.func41, Try.ntmps41
  go_wp2_with fail
  refine (HP.out _).mono ?_
  rintro e w2 ⟨rfl, hb2⟩
  have cl2 := (hb2.cell (p := ⟨Bl, 0, none⟩) hqW).trans hcl
  have hqW2 := Nat.lt_of_lt_of_le hqW hb2.size
  have HB2 := hidP hb2
  clear hb2 c0 c1 c2 c3 hcl
  go_wp2_with fail
  have HB3 := hidP (HB2.out.alloc HB2.out.size (.cells #[.bool x.s, .int .i64 x.H.toInt, .int .i64 x.L.toInt, .int .i64 (x.n : Int)] 46))
  obtain ⟨b0, b1, b2, b3⟩ := box_cells w2 46 ⟨x.s, x.H, x.L, (x.n : Int)⟩
  refine (HS.out _ HB3.out).mono ?_
  rintro e w3 ⟨g, rfl, ho, hb3⟩
  have lt2 : w2.heap.size < (w2.alloc (.cells #[.bool x.s, .int .i64 x.H.toInt, .int .i64 x.L.toInt, .int .i64 (x.n : Int)] 46)).heap.size := by simp
  have c0 := (hb3.cell (p := ⟨w2.heap.size, 0, none⟩) lt2).trans b0
  have c1 := (hb3.cell (p := ⟨w2.heap.size, 1, none⟩) lt2).trans b1
  have c2 := (hb3.cell (p := ⟨w2.heap.size, 2, none⟩) lt2).trans b2
  have c3 := (hb3.cell (p := ⟨w2.heap.size, 3, none⟩) lt2).trans b3
  have hlt : w2.heap.size < w3.heap.size := Nat.lt_of_lt_of_le lt2 hb3.size
  have HO := hidP (ho.mono HB3.out.size)
  have HB4 := hidP (HB3.out.trans (hb3.mono HB3.out.size))
  clear ho hb3 b0 b1 b2 b3 lt2 cl2
  go_wp2_with fail
  refine (HE.out g w3 HO.out HB4.out).mono ?_
  rintro e w4 ⟨b, rfl, h4⟩
  have H4 := hidP h4
  clear h4
  go_wp2_with fail
  go_end0
  exact ⟨⟨_, rfl⟩, b, H4.out⟩

set_option maxRecDepth 10000 in
set_option maxHeartbeats 2000000 in
theorem left_no (p : Pf) (a : Option Addr) (cap : Nat) (ps : List Pf) (w0 : World) (hB : Row w0 a ps) (hl : ps.length ≤ 1048576) (hno : (p.pok && rightP ps) = false) : LeftGives p a ps.length cap w0 [] := by
  intro w Bp Bl hw hbp hbl hp hq l J M W hk hRM hfit hA hRn hJ
  have hS : ∀ wx, Below W.heap.size W wx → Calls Try.prog 42 #[.slice a ps.length cap] wx fun e w' => ∃ a' n' c', e = .returned (.tuple #[.slice a' n' c', .bool (rightP ps)]) ∧ Below wx.heap.size wx w' := fun wx hb =>
    spansOf_res a cap ps wx ((hB.later (hw.trans ((hk.mono (N := fun k => k < w0.heap.size) fun k h => Or.inl h).below hw.size))).later hb) hl
  have HS := hidP hS
  have hbW : Box4 W Bp p := hbp.kpt hk hp (Or.inr (Or.inl rfl))
  have hcl : W.cell? ⟨Bl, 0, none⟩ = some (.slice a ps.length cap) := (hk.cell (p := ⟨Bl, 0, none⟩) hq (Or.inr (Or.inr rfl))).trans hbl
  have hpW : Bp < W.heap.size := Nat.lt_of_lt_of_le hp hk.size
  have hqW : Bl < W.heap.size := Nat.lt_of_lt_of_le hq hk.size
  have HE : Hid (∀ w', Below W.heap.size W w' → ∃ b, Ends J [] [] M W w' b) := hidP fun w' hb => ⟨true, [], M, hA _ _ _ _ _ hJ (Kpt.ofBelow _ hb), Grw.ofBelow hb hfit, fun _ => rfl, fun h => by cases h⟩
  obtain ⟨c0, c1, c2, c3⟩ := hbW
  clear hS hbp hbl hk hRM hA hRn hJ hB hw hp hq hfit
  obtain ⟨n, hn⟩ : ∃ n, n = ps.length := ⟨_, rfl⟩
  rw [← hn] at HS hcl hl
  clear hn
  cases hpk : pokB p.s p.H p.L p.b
  · have HP := hidP (spanOf_no p.s p.H p.L p.b hpk)
    clear hno hpk
    go_enter Try.func41, Try.ntmps41
    go_wp2_with fail
    refine (HP.out _).mono ?_
    rintro e w2 ⟨rfl, hb2⟩
    have cl2 := (hb2.cell (p := ⟨Bl, 0, none⟩) hqW).trans hcl
    have hqW2 := Nat.lt_of_lt_of_le hqW hb2.size
    have HB2 := hidP hb2
    clear hb2 c0 c1 c2 c3 hcl
    go_wp2_with fail
    have HB3 := hidP (HB2.out.alloc HB2.out.size (.cells #[.bool false, .int .i64 0, .int .i64 0, .int .i64 0] 46))
    refine (HS.out _ HB3.out).mono ?_
    rintro e w3 ⟨a3, n3, c3, rfl, hb3⟩
    have HB4 := hidP (HB3.out.trans (hb3.mono HB3.out.size))
    clear hb3 cl2
    go_wp2_with fail
    go_end0
    exact ⟨⟨_, rfl⟩, HE.out _ HB4.out⟩
  · have hr : rightP ps = false := by
      have h1 : p.pok = true := hpk
      rw [h1] at hno; simpa using hno
    simp only [hr] at HS
    clear hr hno
    obtain ⟨m, hm⟩ : ∃ m : Nat, (m : Int) = (wd p.s : Int) - p.b := ⟨((wd p.s : Int) - p.b).toNat, by have := (pokB_parts hpk).2.1; omega⟩
    have HP := hidP (spanOf_yes p.s p.H p.L p.b m hm hpk)
    clear hm hpk
    go_enter Try.func41, Try.ntmps41
    go_wp2_with fail
    refine (HP.out _).mono ?_
    rintro e w2 ⟨rfl, hb2⟩
    have cl2 := (hb2.cell (p := ⟨Bl, 0, none⟩) hqW).trans hcl
    have hqW2 := Nat.lt_of_lt_of_le hqW hb2.size
    have HB2 := hidP hb2
    clear hb2 c0 c1 c2 c3 hcl
    go_wp2_with fail
    have HB3 := hidP (HB2.out.alloc HB2.out.size (.cells #[.bool p.s, .int .i64 p.H.toInt, .int .i64 p.L.toInt, .int .i64 (m : Int)] 46))
    refine (HS.out _ HB3.out).mono ?_
    rintro e w3 ⟨a3, n3, c3, rfl, hb3⟩
    have HB4 := hidP (HB3.out.trans (hb3.mono HB3.out.size))
    clear hb3 cl2
    go_wp2_with fail
    go_end0
    exact ⟨⟨_, rfl⟩, HE.out _ HB4.out⟩

end Go.Proofs.Ytnlnigelecmobaa
namespace Go.Proofs.Ytnlnigelecmobaa
open Go.RowKit

attribute [local go_sem] Oper.semAt_some

def roomP (b : Int) (t : Sp) : Bool := decide ((wd t.s : Int) - t.n ≤ b)
def partL (s : Bool) (b : Int) (ys : List Sp) : List Sp := if (wd s : Int) < b then [] else ys.filter (roomP b)

/-- The program's partsFor, of p, a row and so many bits, hands out ys. -/
def PartGives (p : Pf) (a : Option Addr) (n cap : Nat) (bits : Int) (w0 : World) (ys : List Sp) : Prop := ∀ (w : World) (Bb Bp Bl : Nat), Below w0.heap.size w0 w → w.cell? ⟨Bb, 0, none⟩ = some (.int .i64 bits) → Box4 w Bp p → w.cell? ⟨Bl, 0, none⟩ = some (.slice a n cap) → w0.heap.size ≤ Bb → Bb < w.heap.size → Bp < w.heap.size → Bl < w.heap.size →
  Iter Try.prog 31 #[.pointer (some ⟨Bb, 0, none⟩), .pointer (some ⟨Bp, 0, none⟩), .pointer (some ⟨Bl, 0, none⟩)] encP ys (fun k => k < w0.heap.size ∨ k = Bb ∨ k = Bp ∨ k = Bl) w

set_option maxHeartbeats 1000000 in
theorem partsFor_any (p : Pf) (a : Option Addr) (n cap : Nat) (bits : Int) (w : World) :
    Calls Try.prog 15 #[.agg #[.bool p.s, .int .i64 p.H.toInt, .int .i64 p.L.toInt, .int .i64 p.b], .slice a n cap, .int .i64 bits] w fun e w' => e = .returned (.func (.func 31) #[] #[.pointer (some ⟨w.heap.size + 2, 0, none⟩), .pointer (some ⟨w.heap.size, 0, none⟩), .pointer (some ⟨w.heap.size + 1, 0, none⟩)]) ∧ w' = ((w.alloc (.cells #[.bool p.s, .int .i64 p.H.toInt, .int .i64 p.L.toInt, .int .i64 p.b] 27)).alloc (.cells #[.slice a n cap] 28)).alloc (.cells #[.int .i64 bits] 3) := by
  go_enter Try.func15, Try.ntmps15
  go_wp2
  go_ret
  exact ⟨rfl, rfl⟩

theorem filter_pre {α : Type} (f : α → Bool) {p xs : List α} (h : p <+: xs) : p.filter f <+: xs.filter f := by
  obtain ⟨t, rfl⟩ := h
  rw [List.filter_append]; exact List.prefix_append _ _

theorem cell_new (W : World) (v : Value) (t : TypeId) : (W.alloc (.cells #[v] t)).cell? ⟨W.heap.size, 0, none⟩ = some v := by
  have h := World.alloc_heap_new W (.cells #[v] t)
  unfold World.cell?
  rw [show (⟨W.heap.size, 0, none⟩ : Addr).block = W.heap.size from rfl, h]
  rfl

theorem cell_blk {A B : World} {p : Addr} (h : B.heap[p.block]? = A.heap[p.block]?) : B.cell? p = A.cell? p := World.cell?_of_block (w := A) h

/-- Between two rounds of the inner loop. -/
def ptJ (J : Bool → List Sp → (Nat → Prop) → World → Prop) (bits : Int) (W1 : World) (By Bb : Nat) (b : Bool) (pre : List Sp) (M1 : Nat → Prop) (V : World) : Prop :=
  ∃ M, (∀ k, M1 k ↔ (M k ∨ k = By ∨ k = Bb)) ∧ ¬ M By ∧ ¬ M Bb ∧ V.heap[By]? = W1.heap[By]? ∧ V.heap[Bb]? = W1.heap[Bb]? ∧ W1.heap.size ≤ V.heap.size ∧ J b (pre.filter (roomP bits)) M V

theorem pt_abd {J : Bool → List Sp → (Nat → Prop) → World → Prop} (hA : Abd J) {bits : Int} {W1 : World} {By Bb : Nat} (hy : By < W1.heap.size) (hb : Bb < W1.heap.size) {b : Bool} {pre : List Sp} {M1 : Nat → Prop} {A B : World}
    (h : ptJ J bits W1 By Bb b pre M1 A) (hk : Kpt M1 A B) : ptJ J bits W1 By Bb b pre M1 B := by
  obtain ⟨M, hM, n1, n2, e1, e2, hs, hj⟩ := h
  exact ⟨M, hM, n1, n2, (hk.block By (by omega) ((hM By).2 (Or.inr (Or.inl rfl)))).trans e1, (hk.block Bb (by omega) ((hM Bb).2 (Or.inr (Or.inr rfl)))).trans e2, Nat.le_trans hs hk.size, hA _ _ _ _ _ hj (hk.mono fun k h => (hM k).2 (Or.inl h))⟩

theorem pt_end {J : Bool → List Sp → (Nat → Prop) → World → Prop} (hA : Abd J) {bits : Int} {W W1 W3 V : World} {Bb : Nat} {b : Bool} {pre all xs : List Sp} {M M1 : Nat → Prop} (hW : Below W.heap.size W W1) (hW3 : Below W.heap.size W W3) (hbS : Bb < W.heap.size)
    (hp : ptJ J bits W1 W.heap.size Bb b pre M1 V) (hg : Grw (fun k => M k ∨ k = W.heap.size ∨ k = Bb) M1 W3 V) (D : Nat) (hD : W3.heap.size ≤ D) (hMD : ¬ M1 D) (ht : b = true → pre.filter (roomP bits) = xs) (hf : b = false → pre.filter (roomP bits) <+: all) :
    Ends J all xs M W (V.putObj D (.deferred none)) b := by
  obtain ⟨M', hM, n1, n2, e1, e2, hs, hj⟩ := hp
  have hz := hW3.size
  refine ⟨pre.filter (roomP bits), M', hA _ _ _ _ _ hj ((kpt_put V D _).mono fun k hk e => hMD ((hM D).2 (Or.inl (e ▸ hk)))), ⟨⟨hg.kept.os.trans hW3.os, hg.kept.tape.trans hW3.tape, hg.kept.output.trans hW3.output, by have := hg.kept.size; rw [World.putObj_size]; omega, fun k hk hn => ?_⟩, fun k hk hl => ?_, fun k hk => ?_⟩, ht, hf⟩
  · refine (World.putObj_heap_other (by omega)).trans ?_
    by_cases e : k = Bb
    · rw [e]; exact e2.trans (hW.block Bb hbS)
    · refine (hg.kept.block k (by omega) ?_).trans (hW3.block k hk)
      rintro (h | h | h)
      · exact hn h
      · omega
      · exact e h
  · rcases hg.old k ((hM k).2 (Or.inl hk)) (by omega) with h | h | h
    · exact h
    · omega
    · exact absurd (h ▸ hk) n2
  · rw [World.putObj_size]; exact hg.fit k ((hM k).2 (Or.inl hk))

theorem pt_next {J : Bool → List Sp → (Nat → Prop) → World → Prop} {bits : Int} {W1 V2 V3 : World} {By Bb : Nat} (hy : By < W1.heap.size) (hb : Bb < W1.heap.size) {b : Bool} {pre : List Sp} {x : Sp} {M1 M2 M3 : Nat → Prop}
    (hM : ∀ k, M1 k ↔ (M2 k ∨ k = By ∨ k = Bb)) (m1 : ¬ M2 By) (m2 : ¬ M2 Bb) (f1 : V2.heap[By]? = W1.heap[By]?) (f2 : V2.heap[Bb]? = W1.heap[Bb]?) (hs : W1.heap.size ≤ V2.heap.size)
    (hr : roomP bits x = true) (hj : J b (pre.filter (roomP bits) ++ [x]) M3 V3) (hg : Grw M2 M3 V2 V3) : ∃ M1', ptJ J bits W1 By Bb b (pre ++ [x]) M1' V3 ∧ Grw M1 M1' V2 V3 := by
  have hs3 := hg.kept.size
  refine ⟨fun k => M3 k ∨ k = By ∨ k = Bb, ⟨M3, fun _ => Iff.rfl, fun h => m1 (hg.old By h (by omega)), fun h => m2 (hg.old Bb h (by omega)), (hg.kept.block By (by omega) m1).trans f1, (hg.kept.block Bb (by omega) m2).trans f2, by omega, ?_⟩, ⟨hg.kept.mono fun k h h' => h ((hM k).2 (Or.inl h')), fun k h hl => (hM k).2 (h.imp (fun h => hg.old k h hl) id), fun k h => ?_⟩⟩
  · rw [List.filter_append, List.filter_cons_of_pos hr]; exact hj
  · rcases h with h | h | h
    · exact hg.fit k h
    · omega
    · omega

theorem lastB {W : World} {A B C D : Prop} {w' : World} (c : A ∧ B ∧ C ∧ D ∧ Below W.heap.size W w') : Below W.heap.size W w' := c.2.2.2.2

set_option maxRecDepth 10000 in
set_option maxHeartbeats 2000000 in
theorem part_gives (p : Pf) (a : Option Addr) (n cap : Nat) (bits : Int) (w0 : World) (ys : List Sp) (hL : LeftGives p a n cap w0 ys) : PartGives p a n cap bits w0 (partL p.s bits ys) := by
  intro w Bb Bp Bl hw hcb hbp hbl hb0 hb hp hq l J M W hk hRM hfit hA hRn hJ
  cases hgt : decide ((wd p.s : Int) < bits)
  · have hpl : partL p.s bits ys = ys.filter (roomP bits) := by unfold partL; rw [if_neg (of_decide_eq_false hgt)]
    rw [hpl] at hRn ⊢
    clear hpl
    have HL := hidP hL
    have hw2 : Below w0.heap.size w0 W := hw.trans ((hk.mono (N := fun k => k < w0.heap.size) fun k h => Or.inl h).below hw.size)
    have HW2 := hidP hw2
    have hbW : Box4 W Bp p := hbp.kpt hk hp (Or.inr (Or.inr (Or.inl rfl)))
    have cb : W.cell? ⟨Bb, 0, none⟩ = some (.int .i64 bits) := (hk.cell (p := ⟨Bb, 0, none⟩) hb (Or.inr (Or.inl rfl))).trans hcb
    have hcl : W.cell? ⟨Bl, 0, none⟩ = some (.slice a n cap) := (hk.cell (p := ⟨Bl, 0, none⟩) hq (Or.inr (Or.inr (Or.inr rfl)))).trans hbl
    have hbS : Bb < W.heap.size := Nat.lt_of_lt_of_le hb hk.size
    have hpW : Bp < W.heap.size := Nat.lt_of_lt_of_le hp hk.size
    have hqW : Bl < W.heap.size := Nat.lt_of_lt_of_le hq hk.size
    have HRM := hidP hRM
    have HFit := hidP hfit
    have HA := hidP hA
    have HRn := hidP hRn
    have HJ := hidP hJ
    obtain ⟨c0, c1, c2, c3⟩ := hbW
    have HWd := hidP (width_any p.s p.H.toInt p.L.toInt)
    clear hL hw hw2 hcb hbp hbl hb hp hq hk hRM hfit hA hRn hJ
    refine (callsIn_wide (n := 9)).1 (callsIn_of_wp_marks Try.func31 rfl trivial ?_ rfl)
    simp only [Try.ntmps31, List.size_toArray, List.length_cons, List.length_nil, Nat.reduceAdd, Nat.reduceSub, Array.replicate_succ, Array.replicate_zero, List.push_toArray, List.append_toArray, List.nil_append, List.cons_append]
    gi_wp2
    have hs1 : (W.alloc (.cells #[.func (.yield l) #[] #[]] 63)).heap.size = W.heap.size + 1 := by simp
    have hy1 : (W.alloc (.cells #[.func (.yield l) #[] #[]] 63)).cell? ⟨W.heap.size, 0, none⟩ = some (.func (.yield l) #[] #[]) := cell_new W _ _
    have hb1 : Below W.heap.size W (W.alloc (.cells #[.func (.yield l) #[] #[]] 63)) := (Below.refl _ W).alloc (Nat.le_refl _) _
    generalize W.alloc (.cells #[.func (.yield l) #[] #[]] 63) = W1 at *
    have HSx : Hid (∀ w', Below W1.heap.size W1 w' → (w'.cell? ⟨Bb, 0, none⟩ = some (.int .i64 bits) ∧ w'.cell? ⟨Bp, 0, none⟩ = some (.bool p.s) ∧ w'.cell? ⟨Bp, 1, none⟩ = some (.int .i64 p.H.toInt) ∧ w'.cell? ⟨Bp, 2, none⟩ = some (.int .i64 p.L.toInt) ∧ Below W1.heap.size W1 w')) := hidP fun w' h =>
      have e : ∀ q : Addr, q.block < W.heap.size → w'.cell? q = W.cell? q := fun q hq => (h.cell (p := q) (by omega)).trans (hb1.cell (p := q) hq)
      ⟨(e ⟨Bb, 0, none⟩ hbS).trans cb, (e ⟨Bp, 0, none⟩ hpW).trans c0, (e ⟨Bp, 1, none⟩ hpW).trans c1, (e ⟨Bp, 2, none⟩ hpW).trans c2, h⟩
    have HSy : Hid (∀ w', Below W1.heap.size W1 w' → (w'.cell? ⟨Bp, 3, none⟩ = some (.int .i64 p.b) ∧ w'.cell? ⟨Bl, 0, none⟩ = some (.slice a n cap) ∧ w'.cell? ⟨W.heap.size, 0, none⟩ = some (.func (.yield l) #[] #[]))) := hidP fun w' h =>
      have e : ∀ q : Addr, q.block < W.heap.size → w'.cell? q = W.cell? q := fun q hq => (h.cell (p := q) (by omega)).trans (hb1.cell (p := q) hq)
      ⟨(e ⟨Bp, 3, none⟩ hpW).trans c3, (e ⟨Bl, 0, none⟩ hqW).trans hcl, (h.cell (p := ⟨W.heap.size, 0, none⟩) (show W.heap.size < W1.heap.size by omega)).trans hy1⟩
    have HB1 := hidP hb1
    have HY1 := hidP hy1
    clear c0 c1 c2 c3 cb hcl hy1 hb1
    have hS0 := HSx.out W1 (Below.refl _ _)
    obtain ⟨cb, c0, c1, c2, _⟩ := HSx.out W1 (Below.refl _ _)
    have hbS1 : Bb < W1.heap.size := by omega
    have hpW1 : Bp < W1.heap.size := by omega
    have hqW1 : Bl < W1.heap.size := by omega
    refine wpIn_wide.2 ?_
    go_region_held3 (fun w' => w'.cell? ⟨Bb, 0, none⟩ = some (.int .i64 bits) ∧ w'.cell? ⟨Bp, 0, none⟩ = some (.bool p.s) ∧ w'.cell? ⟨Bp, 1, none⟩ = some (.int .i64 p.H.toInt) ∧ w'.cell? ⟨Bp, 2, none⟩ = some (.int .i64 p.L.toInt) ∧ Below W1.heap.size W1 w') (first | (with_reducible exact HSx.out _ b2) | (with_reducible exact hS0) | (with_reducible exact HSx.out _ (Below.refl _ _).drew) | (with_reducible exact HSx.out _ (Below.refl _ _))) (first | (go_at_call_of 32 (Value.int IntKind.i64 p.H.toInt); refine (HWd.out _).mono ?_; rintro e w2 ⟨rfl, hb2⟩; have b2 := (lastB (by assumption)).trans (hb2.mono (lastB (by assumption)).size)))
    all_goals
      have HB2 := hidP b2
      clear hb2 b2
      obtain ⟨cb', c0', c1', c2', _⟩ := HSx.out w2 HB2.out
      obtain ⟨c3', cl', cy'⟩ := HSy.out w2 HB2.out
      have hz2 := HB2.out.size
      gi_wp2
      refine ⟨trivial, (callsIn_wide.2 (leftOf_any p a n cap _)).mono ?_⟩
      rintro e w3 ⟨rfl, rfl⟩
      have hz3 : ((w2.alloc (.cells #[.bool p.s, .int .i64 p.H.toInt, .int .i64 p.L.toInt, .int .i64 p.b] 27)).alloc (.cells #[.slice a n cap] 28)).heap.size = w2.heap.size + 2 := by simp
      have hb3 : Below w2.heap.size w2 ((w2.alloc (.cells #[.bool p.s, .int .i64 p.H.toInt, .int .i64 p.L.toInt, .int .i64 p.b] 27)).alloc (.cells #[.slice a n cap] 28)) := ((Below.refl _ w2).alloc (Nat.le_refl _) _).alloc (by simp) _
      have hx3 : Box4 ((w2.alloc (.cells #[.bool p.s, .int .i64 p.H.toInt, .int .i64 p.L.toInt, .int .i64 p.b] 27)).alloc (.cells #[.slice a n cap] 28)) w2.heap.size p := Box4.later (box_cells w2 27 p) ((Below.refl _ _).alloc (Nat.le_refl _) _) (by simp)
      have hx4 : ((w2.alloc (.cells #[.bool p.s, .int .i64 p.H.toInt, .int .i64 p.L.toInt, .int .i64 p.b] 27)).alloc (.cells #[.slice a n cap] 28)).cell? ⟨w2.heap.size + 1, 0, none⟩ = some (.slice a n cap) := by
        have h := cell_new (w2.alloc (.cells #[.bool p.s, .int .i64 p.H.toInt, .int .i64 p.L.toInt, .int .i64 p.b] 27)) (.slice a n cap) 28
        rw [World.size_alloc] at h; exact h
      gi_wp2
      generalize ((w2.alloc (.cells #[.bool p.s, .int .i64 p.H.toInt, .int .i64 p.L.toInt, .int .i64 p.b] 27)).alloc (.cells #[.slice a n cap] 28)) = W3 at *
      have HBW3 : Hid (Below W1.heap.size W1 W3) := hidP (HB2.out.trans (hb3.mono hz2))
      have HBW : Hid (Below W.heap.size W W3) := hidP (HB1.out.trans (HBW3.out.mono HB1.out.size))
      have HIt := hidP (HL.out W3 w2.heap.size (w2.heap.size + 1) (HW2.out.trans (HBW.out.mono HW2.out.size)) hx3 hx4 (by omega) (by omega))
      have hw0 : w0.heap.size ≤ W.heap.size := HW2.out.size
      clear hb3 hx3 hx4
      refine wp_range (gf := 41) (lb := #[.pointer (some ⟨w2.heap.size, 0, none⟩), .pointer (some ⟨w2.heap.size + 1, 0, none⟩)]) rfl (enters_of Try.func41 (by kernel_rfl) rfl) HIt.out (fun _ => rfl) (fun k h => by omega)
        (ptJ J bits W1 W.heap.size Bb true) (fun c pre M1 V => c = .ret ∧ ptJ J bits W1 W.heap.size Bb false pre M1 V) (fun _ _ _ _ h hk => pt_abd HA.out (by omega) (by omega) h hk) (fun _ _ _ _ _ h hk => ⟨h.1, pt_abd HA.out (by omega) (by omega) h.2 hk⟩)
        (fun k => M k ∨ k = W.heap.size ∨ k = Bb) (fun k h => h.elim (fun h => by have := HFit.out k h; omega) fun h => by omega) (fun k h hm => ?dis)
        ⟨M, fun _ => Iff.rfl, fun h => by have := HFit.out _ h; omega, HRM.out Bb (Or.inr (Or.inl rfl)), HBW3.out.block _ (by omega), HBW3.out.block _ (by omega), HBW3.out.size, HA.out _ _ _ _ _ HJ.out (Kpt.ofBelow _ HBW.out)⟩ ?round ?done ?stop
      case dis =>
        rcases hm with hm | hm | hm
        · have hf := HFit.out k hm
          rcases h with h | h | h
          · exact HRM.out k (Or.inl h) hm
          · omega
          · omega
        · omega
        · omega
      case done =>
        rintro D M1 V hD hDl hMD hp hg hK
        gi_wp2
        refine ⟨by simp, .inl ⟨_, _, rfl, run_takeDeferred hK, ?_⟩⟩
        exact ⟨_, results_none rfl _ _ _, ⟨⟨_, rfl⟩, true, pt_end HA.out HB1.out HBW.out hbS hp hg D hD hMD (fun _ => rfl) (fun h => by cases h)⟩⟩
      case stop =>
        rintro D c pre M1 V hD hDl hMD hpre ⟨rfl, hp⟩ hg hK
        gi_wp2
        refine ⟨by simp, .inl ⟨_, _, rfl, run_takeDeferred hK, ?_⟩⟩
        exact ⟨_, results_none rfl _ _ _, ⟨⟨_, rfl⟩, false, pt_end HA.out HB1.out HBW.out hbS hp hg D hD hMD (fun h => by cases h) (fun _ => filter_pre _ hpre)⟩⟩
      case round =>
        intro l' pre x M1 V _ hf hl' _ hlt hpre
        unfold encP
        refine rnd_of ?_
        intro K' HK'
        have HF0 := hidP hf
        have HPr := hidP hpre
        clear hf hl' hpre
        gi_wp2
        refine HK'.out _ _ ⟨(Below.refl _ V).alloc (Nat.le_refl _) _, ?_⟩
        clear HK'
        intro V2 hk2 hs2 hi2
        obtain ⟨M2, hM2, m1, m2, f1, f2, hsz2, hj2⟩ := hi2
        have cy := (cell_blk (A := W1) (p := ⟨W.heap.size, 0, none⟩) f1).trans HY1.out
        have cb2 := (cell_blk (A := W1) (p := ⟨Bb, 0, none⟩) f2).trans cb
        obtain ⟨x0, x1, x2, x3⟩ := box_cells V 27 x.pre
        have lV : V.heap.size < (V.alloc (.cells #[.bool x.s, .int .i64 x.H.toInt, .int .i64 x.L.toInt, .int .i64 ((wd x.s : Int) - x.n)] 27)).heap.size := by simp
        have nV : V.heap.size ≠ l' := by omega
        have y0 := (hk2.cell (p := ⟨V.heap.size, 0, none⟩) lV nV).trans x0
        have y1 := (hk2.cell (p := ⟨V.heap.size, 1, none⟩) lV nV).trans x1
        have y2 := (hk2.cell (p := ⟨V.heap.size, 2, none⟩) lV nV).trans x2
        have y3 := (hk2.cell (p := ⟨V.heap.size, 3, none⟩) lV nV).trans x3
        dsimp only [Sp.pre] at y0 y1 y2 y3
        have hVs : V.heap.size < V2.heap.size := by rw [hs2]; exact lV
        have hWs : W.heap.size < V2.heap.size := by omega
        have hBs : Bb < V2.heap.size := by omega
        have fit2 : ∀ k, M2 k → k < V2.heap.size := fun k h => by have := HF0.out k ((hM2 k).2 (Or.inl h)); omega
        have fit1 : ∀ k, M1 k → k < V2.heap.size := fun k h => by have := HF0.out k h; omega
        cases hr : decide ((wd x.s : Int) - x.n ≤ bits)
        · have HF : Hid (∃ M', ptJ J bits W1 W.heap.size Bb true (pre ++ [x]) M' V2 ∧ Grw M1 M' V2 V2) := hidP ⟨M1, ⟨M2, hM2, m1, m2, f1, f2, hsz2, by rw [List.filter_append, List.filter_cons_of_neg (by unfold roomP; rw [hr]; simp), List.filter_nil, List.append_nil]; exact hj2⟩, Grw.refl fit1⟩
          clear hk2 hs2 hM2 m1 m2 f1 f2 hsz2 hj2 x0 x1 x2 x3 lV nV fit2 fit1
          gi_wp2
          first | exact HF.out | (refine ⟨fun _ h => (by cases h), ?_⟩; gi_wp2; exact HF.out) | trace_state
        · have hpx : pre.filter (roomP bits) ++ [x] <+: ys.filter (roomP bits) := by
            have h := filter_pre (roomP bits) HPr.out
            rw [List.filter_append, List.filter_cons_of_pos (show roomP bits x = true from hr)] at h
            exact h
          obtain ⟨fn, tmps, assign, body, hy, hRd⟩ := HRn.out 8 (pre.filter (roomP bits)) x M2 V2 hj2 fit2 hpx
          dsimp only [encP] at hy
          have HRd := hidP hRd
          have HN : Hid (∀ (b : Bool) (M3 : Nat → Prop) (V3 : World), J b (pre.filter (roomP bits) ++ [x]) M3 V3 → Grw M2 M3 V2 V3 → ∃ M1', ptJ J bits W1 W.heap.size Bb b (pre ++ [x]) M1' V3 ∧ Grw M1 M1' V2 V3) := hidP fun b M3 V3 hj hg => pt_next (show W.heap.size < W1.heap.size by omega) hbS1 hM2 m1 m2 f1 f2 hsz2 hr hj hg
          clear hk2 hs2 hM2 m1 m2 f1 f2 hsz2 hj2 x0 x1 x2 x3 lV nV fit2 fit1 hpx hRd
          gi_wp2
          refine RoundIn.mono (F := Fence.wide.inRound l') HRd.out ?_
          rintro e V3 ⟨b, M3, rfl, hj3, hg3⟩
          have HG := hidP (HN.out b M3 V3 hj3 hg3)
          clear hj3 hg3
          cases b
          · gi_wp2
            obtain ⟨M4, h1, h2⟩ := HG.out
            exact ⟨M4, ⟨rfl, h1⟩, h2⟩
          · gi_wp2
            exact HG.out
  · have hpl : partL p.s bits ys = [] := by unfold partL; rw [if_pos (of_decide_eq_true hgt)]
    rw [hpl] at hRn ⊢
    clear hpl
    have HL := hidP hL
    have hw2 : Below w0.heap.size w0 W := hw.trans ((hk.mono (N := fun k => k < w0.heap.size) fun k h => Or.inl h).below hw.size)
    have HW2 := hidP hw2
    have hbW : Box4 W Bp p := hbp.kpt hk hp (Or.inr (Or.inr (Or.inl rfl)))
    have cb : W.cell? ⟨Bb, 0, none⟩ = some (.int .i64 bits) := (hk.cell (p := ⟨Bb, 0, none⟩) hb (Or.inr (Or.inl rfl))).trans hcb
    have hcl : W.cell? ⟨Bl, 0, none⟩ = some (.slice a n cap) := (hk.cell (p := ⟨Bl, 0, none⟩) hq (Or.inr (Or.inr (Or.inr rfl)))).trans hbl
    have hbS : Bb < W.heap.size := Nat.lt_of_lt_of_le hb hk.size
    have hpW : Bp < W.heap.size := Nat.lt_of_lt_of_le hp hk.size
    have hqW : Bl < W.heap.size := Nat.lt_of_lt_of_le hq hk.size
    have HRM := hidP hRM
    have HFit := hidP hfit
    have HA := hidP hA
    have HRn := hidP hRn
    have HJ := hidP hJ
    obtain ⟨c0, c1, c2, c3⟩ := hbW
    have HWd := hidP (width_any p.s p.H.toInt p.L.toInt)
    clear hL hw hw2 hcb hbp hbl hb hp hq hk hRM hfit hA hRn hJ
    refine (callsIn_wide (n := 9)).1 (callsIn_of_wp_marks Try.func31 rfl trivial ?_ rfl)
    simp only [Try.ntmps31, List.size_toArray, List.length_cons, List.length_nil, Nat.reduceAdd, Nat.reduceSub, Array.replicate_succ, Array.replicate_zero, List.push_toArray, List.append_toArray, List.nil_append, List.cons_append]
    gi_wp2
    have hs1 : (W.alloc (.cells #[.func (.yield l) #[] #[]] 63)).heap.size = W.heap.size + 1 := by simp
    have hy1 : (W.alloc (.cells #[.func (.yield l) #[] #[]] 63)).cell? ⟨W.heap.size, 0, none⟩ = some (.func (.yield l) #[] #[]) := cell_new W _ _
    have hb1 : Below W.heap.size W (W.alloc (.cells #[.func (.yield l) #[] #[]] 63)) := (Below.refl _ W).alloc (Nat.le_refl _) _
    generalize W.alloc (.cells #[.func (.yield l) #[] #[]] 63) = W1 at *
    have HSx : Hid (∀ w', Below W1.heap.size W1 w' → (w'.cell? ⟨Bb, 0, none⟩ = some (.int .i64 bits) ∧ w'.cell? ⟨Bp, 0, none⟩ = some (.bool p.s) ∧ w'.cell? ⟨Bp, 1, none⟩ = some (.int .i64 p.H.toInt) ∧ w'.cell? ⟨Bp, 2, none⟩ = some (.int .i64 p.L.toInt) ∧ Below W1.heap.size W1 w')) := hidP fun w' h =>
      have e : ∀ q : Addr, q.block < W.heap.size → w'.cell? q = W.cell? q := fun q hq => (h.cell (p := q) (by omega)).trans (hb1.cell (p := q) hq)
      ⟨(e ⟨Bb, 0, none⟩ hbS).trans cb, (e ⟨Bp, 0, none⟩ hpW).trans c0, (e ⟨Bp, 1, none⟩ hpW).trans c1, (e ⟨Bp, 2, none⟩ hpW).trans c2, h⟩
    have HSy : Hid (∀ w', Below W1.heap.size W1 w' → (w'.cell? ⟨Bp, 3, none⟩ = some (.int .i64 p.b) ∧ w'.cell? ⟨Bl, 0, none⟩ = some (.slice a n cap) ∧ w'.cell? ⟨W.heap.size, 0, none⟩ = some (.func (.yield l) #[] #[]))) := hidP fun w' h =>
      have e : ∀ q : Addr, q.block < W.heap.size → w'.cell? q = W.cell? q := fun q hq => (h.cell (p := q) (by omega)).trans (hb1.cell (p := q) hq)
      ⟨(e ⟨Bp, 3, none⟩ hpW).trans c3, (e ⟨Bl, 0, none⟩ hqW).trans hcl, (h.cell (p := ⟨W.heap.size, 0, none⟩) (show W.heap.size < W1.heap.size by omega)).trans hy1⟩
    have HB1 := hidP hb1
    have HY1 := hidP hy1
    clear c0 c1 c2 c3 cb hcl hy1 hb1
    have hS0 := HSx.out W1 (Below.refl _ _)
    obtain ⟨cb, c0, c1, c2, _⟩ := HSx.out W1 (Below.refl _ _)
    have hbS1 : Bb < W1.heap.size := by omega
    have hpW1 : Bp < W1.heap.size := by omega
    have hqW1 : Bl < W1.heap.size := by omega
    refine wpIn_wide.2 ?_
    go_region_held3 (fun w' => w'.cell? ⟨Bb, 0, none⟩ = some (.int .i64 bits) ∧ w'.cell? ⟨Bp, 0, none⟩ = some (.bool p.s) ∧ w'.cell? ⟨Bp, 1, none⟩ = some (.int .i64 p.H.toInt) ∧ w'.cell? ⟨Bp, 2, none⟩ = some (.int .i64 p.L.toInt) ∧ Below W1.heap.size W1 w') (first | (with_reducible exact HSx.out _ b2) | (with_reducible exact hS0) | (with_reducible exact HSx.out _ (Below.refl _ _).drew) | (with_reducible exact HSx.out _ (Below.refl _ _))) (first | (go_at_call_of 32 (Value.int IntKind.i64 p.H.toInt); refine (HWd.out _).mono ?_; rintro e w2 ⟨rfl, hb2⟩; have b2 := (lastB (by assumption)).trans (hb2.mono (lastB (by assumption)).size)))
    all_goals
      have HB2 := hidP b2
      have HE : Hid (∃ b, Ends J [] [] M W w2 b) := hidP ⟨true, [], M, HA.out _ _ _ _ _ HJ.out (Kpt.ofBelow _ (HB1.out.trans (b2.mono HB1.out.size))), Grw.ofBelow (HB1.out.trans (b2.mono HB1.out.size)) HFit.out, fun _ => rfl, fun h => by cases h⟩
      clear hb2 b2
      gi_wp2
      exact ⟨_, results_none rfl _ _ _, ⟨⟨_, rfl⟩, HE.out⟩⟩

end Go.Proofs.Ytnlnigelecmobaa
namespace Go.Proofs.Ytnlnigelecmobaa
open Go.RowKit

def askB (p : Pf) (ps : List Pf) (bits : Int) : Bool := p.pok && rightP ps && decide (p.b ≤ bits ∧ bits ≤ (wd p.s : Int))

set_option maxRecDepth 10000 in
set_option maxHeartbeats 1000000 in
theorem l4Asked_p (p : Pf) (a : Option Addr) (cap : Nat) (ps : List Pf) (bits : Int) (w : World) (hB : Row w a ps) (hl : ps.length ≤ 1048576) (hpk : pokB p.s p.H p.L p.b = false) :
    Calls Try.prog 16 #[.agg #[.bool p.s, .int .i64 p.H.toInt, .int .i64 p.L.toInt, .int .i64 p.b], .slice a ps.length cap, .int .i64 bits] w fun e w' => e = .returned (.bool false) ∧ Below w.heap.size w w' := by
  have hP := sPrefixOk_any p.s p.H p.L p.b
  rw [hpk] at hP
  have HP := hidP hP
  have HR : Hid (∀ (wx : World) (_ : Row wx a ps), Calls Try.prog 34 #[.slice a ps.length cap] wx fun e w' => e = .returned (.bool (rightP ps)) ∧ Below wx.heap.size wx w') := hidP fun wx h => l2Right_any a cap ps wx h hl
  have HB := hidP hB
  obtain ⟨n, hn⟩ : ∃ n, n = ps.length := ⟨_, rfl⟩
  rw [← hn] at hl HR ⊢
  clear hB hn hP hpk
  go_enter Try.func16, Try.ntmps16
  go_wp2_with fail
  have hbx := box_cells w 27 p
  have hb1 : Below w.heap.size w (w.alloc (.cells #[.bool p.s, .int .i64 p.H.toInt, .int .i64 p.L.toInt, .int .i64 p.b] 27)) := (Below.refl _ w).alloc (Nat.le_refl _) _
  have hs1 : w.heap.size < (w.alloc (.cells #[.bool p.s, .int .i64 p.H.toInt, .int .i64 p.L.toInt, .int .i64 p.b] 27)).heap.size := by simp
  generalize w.alloc (.cells #[.bool p.s, .int .i64 p.H.toInt, .int .i64 p.L.toInt, .int .i64 p.b] 27) = W1 at *
  have HSx : Hid (∀ x, Below W1.heap.size W1 x → (x.cell? ⟨w.heap.size, 0, none⟩ = some (.bool p.s) ∧ x.cell? ⟨w.heap.size, 1, none⟩ = some (.int .i64 p.H.toInt) ∧ x.cell? ⟨w.heap.size, 2, none⟩ = some (.int .i64 p.L.toInt) ∧ x.cell? ⟨w.heap.size, 3, none⟩ = some (.int .i64 p.b) ∧ Below W1.heap.size W1 x)) := hidP fun x h =>
    ⟨(h.cell hs1).trans hbx.1, (h.cell hs1).trans hbx.2.1, (h.cell hs1).trans hbx.2.2.1, (h.cell hs1).trans hbx.2.2.2, h⟩
  have HB1 := hidP hb1
  clear hbx hb1
  refine wp_region_held_drew (S := (fun x => x.cell? ⟨w.heap.size, 0, none⟩ = some (.bool p.s) ∧ x.cell? ⟨w.heap.size, 1, none⟩ = some (.int .i64 p.H.toInt) ∧ x.cell? ⟨w.heap.size, 2, none⟩ = some (.int .i64 p.L.toInt) ∧ x.cell? ⟨w.heap.size, 3, none⟩ = some (.int .i64 p.b) ∧ Below W1.heap.size W1 x)) (by kernel_rfl) ?_ (fun hHeld => ?_)
  · try dsimp only
    exact HSx.out _ (Below.refl _ _).drew
  refine tk 0 7 rfl ?_; simp only [pa]
  refine wpAnyH_ready (rs := [1]) (by kernel_rfl) (by simp) ?_
  refine AllReadyH.cons rfl (fun K hK => ?_) AllReadyH.nil
  go_simp
  go_wp2_with (go_at_call 33; refine (HP.out _).mono ?_; rintro e w2 ⟨rfl, hb2⟩; have b2 := (lastB hHeld).trans (hb2.mono (lastB hHeld).size))
  refine hK.out _ _ ?_ (fun hHeld => ?_)
  · try dsimp only
    exact HSx.out _ b2
  clear hK K
  refine tk 2 9 rfl ?_; simp only [pa]
  refine sk 3 10 rfl ?_; simp only [pa]
  refine sk 4 11 rfl ?_; simp only [pa]
  refine tk 5 12 rfl ?_; simp only [pa]
  refine tk 6 13 rfl ?_; simp only [pa]
  refine sk 7 14 rfl ?_; simp only [pa]
  refine sk 8 15 rfl ?_; simp only [pa]
  refine sk 9 16 rfl ?_; simp only [pa]
  refine sk 10 17 rfl ?_; simp only [pa]
  refine sk 11 18 rfl ?_; simp only [pa]
  refine sk 12 19 rfl ?_; simp only [pa]
  refine sk 13 20 rfl ?_; simp only [pa]
  refine tk 14 21 rfl ?_; simp only [pa]
  refine tk 15 6 rfl ?_; simp only [pa]
  refine wpAnyH_done (by kernel_rfl) ?_ _
  have HE := hidP (HB1.out.trans (b2.mono HB1.out.size))
  clear hHeld
  go_wp2_with fail
  go_ret
  first | exact ⟨rfl, HE.out⟩ | trace_state

end Go.Proofs.Ytnlnigelecmobaa
namespace Go.Proofs.Ytnlnigelecmobaa
open Go.RowKit

set_option maxRecDepth 10000 in
set_option maxHeartbeats 1000000 in
theorem l4Asked_r (p : Pf) (a : Option Addr) (cap : Nat) (ps : List Pf) (bits : Int) (w : World) (hB : Row w a ps) (hl : ps.length ≤ 1048576) (hpk : pokB p.s p.H p.L p.b = true) (hr : rightP ps = false) :
    Calls Try.prog 16 #[.agg #[.bool p.s, .int .i64 p.H.toInt, .int .i64 p.L.toInt, .int .i64 p.b], .slice a ps.length cap, .int .i64 bits] w fun e w' => e = .returned (.bool false) ∧ Below w.heap.size w w' := by
  have hP := sPrefixOk_any p.s p.H p.L p.b
  rw [hpk] at hP
  have HP := hidP hP
  have HR : Hid (∀ (wx : World) (_ : Row wx a ps), Calls Try.prog 34 #[.slice a ps.length cap] wx fun e w' => e = .returned (.bool (rightP ps)) ∧ Below wx.heap.size wx w') := hidP fun wx h => l2Right_any a cap ps wx h hl
  rw [hr] at HR
  clear hr
  have HB := hidP hB
  obtain ⟨n, hn⟩ : ∃ n, n = ps.length := ⟨_, rfl⟩
  rw [← hn] at hl HR ⊢
  clear hB hn hP hpk
  go_enter Try.func16, Try.ntmps16
  go_wp2_with fail
  have hbx := box_cells w 27 p
  have hb1 : Below w.heap.size w (w.alloc (.cells #[.bool p.s, .int .i64 p.H.toInt, .int .i64 p.L.toInt, .int .i64 p.b] 27)) := (Below.refl _ w).alloc (Nat.le_refl _) _
  have hs1 : w.heap.size < (w.alloc (.cells #[.bool p.s, .int .i64 p.H.toInt, .int .i64 p.L.toInt, .int .i64 p.b] 27)).heap.size := by simp
  generalize w.alloc (.cells #[.bool p.s, .int .i64 p.H.toInt, .int .i64 p.L.toInt, .int .i64 p.b] 27) = W1 at *
  have HSx : Hid (∀ x, Below W1.heap.size W1 x → (x.cell? ⟨w.heap.size, 0, none⟩ = some (.bool p.s) ∧ x.cell? ⟨w.heap.size, 1, none⟩ = some (.int .i64 p.H.toInt) ∧ x.cell? ⟨w.heap.size, 2, none⟩ = some (.int .i64 p.L.toInt) ∧ x.cell? ⟨w.heap.size, 3, none⟩ = some (.int .i64 p.b) ∧ Below W1.heap.size W1 x)) := hidP fun x h =>
    ⟨(h.cell hs1).trans hbx.1, (h.cell hs1).trans hbx.2.1, (h.cell hs1).trans hbx.2.2.1, (h.cell hs1).trans hbx.2.2.2, h⟩
  have HB1 := hidP hb1
  clear hbx hb1
  refine wp_region_held_drew (S := (fun x => x.cell? ⟨w.heap.size, 0, none⟩ = some (.bool p.s) ∧ x.cell? ⟨w.heap.size, 1, none⟩ = some (.int .i64 p.H.toInt) ∧ x.cell? ⟨w.heap.size, 2, none⟩ = some (.int .i64 p.L.toInt) ∧ x.cell? ⟨w.heap.size, 3, none⟩ = some (.int .i64 p.b) ∧ Below W1.heap.size W1 x)) (by kernel_rfl) ?_ (fun hHeld => ?_)
  · try dsimp only
    exact HSx.out _ (Below.refl _ _).drew
  refine tk 0 7 rfl ?_; simp only [pa]
  refine wpAnyH_ready (rs := [1]) (by kernel_rfl) (by simp) ?_
  refine AllReadyH.cons rfl (fun K hK => ?_) AllReadyH.nil
  go_simp
  go_wp2_with (go_at_call 33; refine (HP.out _).mono ?_; rintro e w2 ⟨rfl, hb2⟩; have b2 := (lastB hHeld).trans (hb2.mono (lastB hHeld).size))
  refine hK.out _ _ ?_ (fun hHeld => ?_)
  · try dsimp only
    exact HSx.out _ b2
  clear hK K
  refine tk 2 9 rfl ?_; simp only [pa]
  refine tk 3 10 rfl ?_; simp only [pa]
  refine wpAnyH_ready (rs := [4]) (by kernel_rfl) (by simp) ?_
  refine AllReadyH.cons rfl (fun K hK => ?_) AllReadyH.nil
  go_simp
  go_wp2_with (go_at_call 34; refine (HR.out _ (HB.out.later (HB1.out.trans ((lastB hHeld).mono HB1.out.size)))).mono ?_; rintro e w3 ⟨rfl, hb3⟩; have b3 := (lastB hHeld).trans (hb3.mono (lastB hHeld).size))
  refine hK.out _ _ ?_ (fun hHeld => ?_)
  · try dsimp only
    exact HSx.out _ b3
  clear hK K
  refine tk 5 12 rfl ?_; simp only [pa]
  refine tk 6 13 rfl ?_; simp only [pa]
  refine sk 7 14 rfl ?_; simp only [pa]
  refine sk 8 15 rfl ?_; simp only [pa]
  refine sk 9 16 rfl ?_; simp only [pa]
  refine sk 10 17 rfl ?_; simp only [pa]
  refine sk 11 18 rfl ?_; simp only [pa]
  refine sk 12 19 rfl ?_; simp only [pa]
  refine sk 13 20 rfl ?_; simp only [pa]
  refine tk 14 21 rfl ?_; simp only [pa]
  refine tk 15 6 rfl ?_; simp only [pa]
  refine wpAnyH_done (by kernel_rfl) ?_ _
  have HE := hidP (HB1.out.trans (b3.mono HB1.out.size))
  clear hHeld
  go_wp2_with fail
  go_ret
  first | exact ⟨rfl, HE.out⟩ | trace_state

end Go.Proofs.Ytnlnigelecmobaa
namespace Go.Proofs.Ytnlnigelecmobaa
open Go.RowKit

set_option maxRecDepth 10000 in
set_option maxHeartbeats 1000000 in
theorem l4Asked_b (p : Pf) (a : Option Addr) (cap : Nat) (ps : List Pf) (bits : Int) (w : World) (hB : Row w a ps) (hl : ps.length ≤ 1048576) (hpk : pokB p.s p.H p.L p.b = true) (hr : rightP ps = true) :
    Calls Try.prog 16 #[.agg #[.bool p.s, .int .i64 p.H.toInt, .int .i64 p.L.toInt, .int .i64 p.b], .slice a ps.length cap, .int .i64 bits] w fun e w' => e = .returned (.bool (decide (p.b ≤ bits ∧ bits ≤ (wd p.s : Int)))) ∧ Below w.heap.size w w' := by
  have hP := sPrefixOk_any p.s p.H p.L p.b
  rw [hpk] at hP
  have HP := hidP hP
  have HR : Hid (∀ (wx : World) (_ : Row wx a ps), Calls Try.prog 34 #[.slice a ps.length cap] wx fun e w' => e = .returned (.bool (rightP ps)) ∧ Below wx.heap.size wx w') := hidP fun wx h => l2Right_any a cap ps wx h hl
  rw [hr] at HR
  have HWd := hidP (l2Width_any p.s p.H.toInt p.L.toInt)
  have HIn : Hid (∀ wx : World, Calls Try.prog 35 #[.int .i64 bits, .int .i64 p.b, .int .i64 (wd p.s)] wx fun e w' => e = .returned (.bool (decide (p.b ≤ bits ∧ bits ≤ (wd p.s : Int)))) ∧ Below wx.heap.size wx w') := hidP fun wx => (l1In_any bits p.b (wd p.s) wx).mono fun e w' h => ⟨h.1, by rw [h.2]; exact Below.refl _ _⟩
  generalize decide (p.b ≤ bits ∧ bits ≤ (wd p.s : Int)) = d at *
  clear hr
  have HB := hidP hB
  obtain ⟨n, hn⟩ : ∃ n, n = ps.length := ⟨_, rfl⟩
  rw [← hn] at hl HR ⊢
  clear hB hn hP hpk
  go_enter Try.func16, Try.ntmps16
  go_wp2_with fail
  have hbx := box_cells w 27 p
  have hb1 : Below w.heap.size w (w.alloc (.cells #[.bool p.s, .int .i64 p.H.toInt, .int .i64 p.L.toInt, .int .i64 p.b] 27)) := (Below.refl _ w).alloc (Nat.le_refl _) _
  have hs1 : w.heap.size < (w.alloc (.cells #[.bool p.s, .int .i64 p.H.toInt, .int .i64 p.L.toInt, .int .i64 p.b] 27)).heap.size := by simp
  generalize w.alloc (.cells #[.bool p.s, .int .i64 p.H.toInt, .int .i64 p.L.toInt, .int .i64 p.b] 27) = W1 at *
  have HSx : Hid (∀ x, Below W1.heap.size W1 x → (x.cell? ⟨w.heap.size, 0, none⟩ = some (.bool p.s) ∧ x.cell? ⟨w.heap.size, 1, none⟩ = some (.int .i64 p.H.toInt) ∧ x.cell? ⟨w.heap.size, 2, none⟩ = some (.int .i64 p.L.toInt) ∧ x.cell? ⟨w.heap.size, 3, none⟩ = some (.int .i64 p.b) ∧ Below W1.heap.size W1 x)) := hidP fun x h =>
    ⟨(h.cell hs1).trans hbx.1, (h.cell hs1).trans hbx.2.1, (h.cell hs1).trans hbx.2.2.1, (h.cell hs1).trans hbx.2.2.2, h⟩
  have HB1 := hidP hb1
  clear hbx hb1
  refine wp_region_held_drew (S := (fun x => x.cell? ⟨w.heap.size, 0, none⟩ = some (.bool p.s) ∧ x.cell? ⟨w.heap.size, 1, none⟩ = some (.int .i64 p.H.toInt) ∧ x.cell? ⟨w.heap.size, 2, none⟩ = some (.int .i64 p.L.toInt) ∧ x.cell? ⟨w.heap.size, 3, none⟩ = some (.int .i64 p.b) ∧ Below W1.heap.size W1 x)) (by kernel_rfl) ?_ (fun hHeld => ?_)
  · try dsimp only
    exact HSx.out _ (Below.refl _ _).drew
  refine tk 0 7 rfl ?_; simp only [pa]
  refine wpAnyH_ready (rs := [1]) (by kernel_rfl) (by simp) ?_
  refine AllReadyH.cons rfl (fun K hK => ?_) AllReadyH.nil
  go_simp
  go_wp2_with (go_at_call 33; refine (HP.out _).mono ?_; rintro e w2 ⟨rfl, hb2⟩; have b2 := (lastB hHeld).trans (hb2.mono (lastB hHeld).size))
  refine hK.out _ _ ?_ (fun hHeld => ?_)
  · try dsimp only
    exact HSx.out _ b2
  clear hK K
  refine tk 2 9 rfl ?_; simp only [pa]
  refine tk 3 10 rfl ?_; simp only [pa]
  refine wpAnyH_ready (rs := [4]) (by kernel_rfl) (by simp) ?_
  refine AllReadyH.cons rfl (fun K hK => ?_) AllReadyH.nil
  go_simp
  go_wp2_with (go_at_call 34; refine (HR.out _ (HB.out.later (HB1.out.trans ((lastB hHeld).mono HB1.out.size)))).mono ?_; rintro e w3 ⟨rfl, hb3⟩; have b3 := (lastB hHeld).trans (hb3.mono (lastB hHeld).size))
  refine hK.out _ _ ?_ (fun hHeld => ?_)
  · try dsimp only
    exact HSx.out _ b3
  clear hK K
  refine tk 5 12 rfl ?_; simp only [pa]
  refine tk 6 13 rfl ?_; simp only [pa]
  refine tk 7 14 rfl ?_; simp only [pa]
  refine tk 8 15 rfl ?_; simp only [pa]
  refine tk 9 16 rfl ?_; simp only [pa]
  refine tk 10 17 rfl ?_; simp only [pa]
  refine tk 11 18 rfl ?_; simp only [pa]
  refine wpAnyH_ready (rs := [12]) (by kernel_rfl) (by simp) ?_
  refine AllReadyH.cons rfl (fun K hK => ?_) AllReadyH.nil
  go_simp
  go_wp2_with (go_at_call 36; refine (HWd.out _).mono ?_; rintro e w4 ⟨rfl, hb4⟩; have b4 := (lastB hHeld).trans (hb4.mono (lastB hHeld).size))
  refine hK.out _ _ ?_ (fun hHeld => ?_)
  · try dsimp only
    exact HSx.out _ b4
  clear hK K
  refine wpAnyH_ready (rs := [13]) (by kernel_rfl) (by simp) ?_
  refine AllReadyH.cons rfl (fun K hK => ?_) AllReadyH.nil
  go_simp
  go_wp2_with (go_at_call 35; refine (HIn.out _).mono ?_; rintro e w5 ⟨rfl, hb5⟩; have b5 := (lastB hHeld).trans (hb5.mono (lastB hHeld).size))
  refine hK.out _ _ ?_ (fun hHeld => ?_)
  · try dsimp only
    exact HSx.out _ b5
  clear hK K
  refine tk 14 21 rfl ?_; simp only [pa]
  refine tk 15 6 rfl ?_; simp only [pa]
  refine wpAnyH_done (by kernel_rfl) ?_ _
  have HE := hidP (HB1.out.trans (b5.mono HB1.out.size))
  clear hHeld
  go_wp2_with fail
  go_ret
  first | exact ⟨rfl, HE.out⟩ | trace_state

end Go.Proofs.Ytnlnigelecmobaa
namespace Go.Proofs.Ytnlnigelecmobaa
open Go.RowKit

theorem l4Asked_any (p : Pf) (a : Option Addr) (cap : Nat) (ps : List Pf) (bits : Int) (w : World) (hB : Row w a ps) (hl : ps.length ≤ 1048576) :
    Calls Try.prog 16 #[.agg #[.bool p.s, .int .i64 p.H.toInt, .int .i64 p.L.toInt, .int .i64 p.b], .slice a ps.length cap, .int .i64 bits] w fun e w' => e = .returned (.bool (askB p ps bits)) ∧ Below w.heap.size w w' := by
  unfold askB Pf.pok
  cases hpk : pokB p.s p.H p.L p.b
  · rw [Bool.false_and, Bool.false_and]; exact l4Asked_p p a cap ps bits w hB hl hpk
  · cases hr : rightP ps
    · rw [Bool.and_false, Bool.false_and]; exact l4Asked_r p a cap ps bits w hB hl hpk hr
    · rw [Bool.and_true, Bool.true_and]; exact l4Asked_b p a cap ps bits w hB hl hpk hr

end Go.Proofs.Ytnlnigelecmobaa
namespace Go.Proofs.Ytnlnigelecmobaa
open Go.RowKit

attribute [local go_sem] Oper.semAt_some

theorem lt_heap {A : World} {k : Nat} {o : Obj} (h : A.heap[k]? = some o) : k < A.heap.size := (Array.getElem?_eq_some_iff.1 h).1
theorem Kpt.at {M : Nat → Prop} {A B : World} {k : Nat} {o : Obj} (hk : Kpt M A B) (hm : M k) (h : A.heap[k]? = some o) : B.heap[k]? = some o := (hk.block k (lt_heap h) hm).trans h
theorem kpt_set {M : Nat → Prop} (V : World) (p : Addr) (u : Value) (hm : M p.block) : Kpt (fun k => ¬ M k) V (V.setCell p u) :=
  ⟨rfl, rfl, rfl, by simp [World.setCell], fun k _ hk => Below.heap_setCell V p u k fun e => hk (e ▸ hm)⟩
theorem Grw.set {M M' : Nat → Prop} {A V : World} (h : Grw M M' A V) (p : Addr) (u : Value) (hm : M' p.block) : Grw M M' A (V.setCell p u) :=
  h.trans ⟨kpt_set V p u hm, fun _ h _ => h, fun k hk => by rw [show (V.setCell p u).heap.size = V.heap.size by simp [World.setCell]]; exact h.fit k hk⟩
theorem set1 {V : World} {k : Nat} {v u : Value} {t : TypeId} (h : V.heap[k]? = some (.cells #[v] t)) : (V.setCell ⟨k, 0, none⟩ u).heap[k]? = some (.cells #[u] t) := by
  simp [World.setCell, Array.getElem?_modify, h]
theorem set4 {V : World} {k : Nat} {a b c d a' b' c' d' : Value} {t : TypeId} (h : V.heap[k]? = some (.cells #[a, b, c, d] t)) : ((((V.setCell ⟨k, 0, none⟩ a').setCell ⟨k, 1, none⟩ b').setCell ⟨k, 2, none⟩ c').setCell ⟨k, 3, none⟩ d').heap[k]? = some (.cells #[a', b', c', d'] t) := by
  simp [World.setCell, Array.getElem?_modify, h]
theorem setO {V : World} {k : Nat} {p : Addr} {u : Value} {o : Obj} (hne : k ≠ p.block) (h : V.heap[k]? = some o) : (V.setCell p u).heap[k]? = some o := (Below.heap_setCell V p u k hne).trans h
theorem of1 {V : World} {k : Nat} {v : Value} {t : TypeId} (h : V.heap[k]? = some (.cells #[v] t)) : V.cell? ⟨k, 0, none⟩ = some v ∧ V.frozen? ⟨k, 0, none⟩ = false := by
  constructor <;> simp [World.cell?, World.frozen?, h]
theorem of4 {V : World} {k : Nat} {a b c d : Value} {t : TypeId} (h : V.heap[k]? = some (.cells #[a, b, c, d] t)) : (V.cell? ⟨k, 0, none⟩ = some a ∧ V.cell? ⟨k, 1, none⟩ = some b ∧ V.cell? ⟨k, 2, none⟩ = some c ∧ V.cell? ⟨k, 3, none⟩ = some d) ∧ V.frozen? ⟨k, 0, none⟩ = false ∧ V.frozen? ⟨k, 1, none⟩ = false ∧ V.frozen? ⟨k, 2, none⟩ = false ∧ V.frozen? ⟨k, 3, none⟩ = false := by
  refine ⟨⟨?_, ?_, ?_, ?_⟩, ?_, ?_, ?_, ?_⟩ <;> simp [World.cell?, World.frozen?, h]
/-- Blocks laid one behind another. -/
def allocs (w : World) : List Obj → World
  | [] => w
  | o :: t => allocs (w.alloc o) t
theorem allocs_below : ∀ (os : List Obj) (w : World), Below w.heap.size w (allocs w os)
  | [], w => Below.refl _ w
  | o :: t, w => ((Below.refl _ w).alloc (Nat.le_refl _) o).trans ((allocs_below t (w.alloc o)).mono (by simp))
theorem allocs_size : ∀ (os : List Obj) (w : World), (allocs w os).heap.size = w.heap.size + os.length
  | [], _ => rfl
  | o :: t, w => by
      show (allocs (w.alloc o) t).heap.size = _
      rw [allocs_size t, World.size_alloc, List.length_cons]; omega
theorem allocs_at : ∀ (os : List Obj) (w : World) (i : Nat) (o : Obj), os[i]? = some o → (allocs w os).heap[w.heap.size + i]? = some o
  | [], _, _, _, h => by simp at h
  | o :: t, w, 0, o', h => by
      have e : o = o' := by simpa using h
      rw [← e]
      exact ((allocs_below t (w.alloc o)).block w.heap.size (by simp)).trans (World.alloc_heap_new w o)
  | o :: t, w, i + 1, o', h => by
      have := allocs_at t (w.alloc o) i o' (by simpa using h)
      rw [World.size_alloc] at this
      rw [show w.heap.size + (i + 1) = w.heap.size + 1 + i by omega]
      exact this
theorem bel_end {w w7 V : World} {M M' : Nat → Prop} (hb : Below w.heap.size w w7) (hg : Grw M M' w7 V) (hM : ∀ k, M k → w.heap.size ≤ k) {D : Nat} (hD : w7.heap.size ≤ D) (o : Obj) : Below w.heap.size w (V.putObj D o) := by
  have hz := hb.size
  exact ⟨hg.kept.os.trans hb.os, hg.kept.tape.trans hb.tape, hg.kept.output.trans hb.output, by have := hg.kept.size; rw [World.putObj_size]; omega, fun k hk => (World.putObj_heap_other (by omega)).trans ((hg.kept.block k (by omega) fun h => by have := hM k h; omega).trans (hb.block k hk))⟩

/-- What FirstFree answers where zs are handed out. -/
def frsV (bits : Int) : List Sp → Value
  | [] => .tuple #[.agg #[.bool false, .int .i64 0, .int .i64 0, .int .i64 0], .bool false]
  | z :: _ => .tuple #[.agg #[.bool z.s, .int .i64 z.H.toInt, .int .i64 z.L.toInt, .int .i64 bits], .bool true]
def frM (s : Nat) (k : Nat) : Prop := k = s + 1 ∨ k = s + 2 ∨ k = s + 3

set_option maxRecDepth 10000 in
set_option maxHeartbeats 2000000 in
theorem iFirst (p : Pf) (a : Option Addr) (n cap : Nat) (bits : Int) (w : World) (zs : List Sp) (hP : PartGives p a n cap bits w zs) :
    Calls Try.prog 6 #[.agg #[.bool p.s, .int .i64 p.H.toInt, .int .i64 p.L.toInt, .int .i64 p.b], .slice a n cap, .int .i64 bits] w fun e w' => e = .returned (frsV bits zs) ∧ Below w.heap.size w w' := by
  have HP := hidP hP
  clear hP
  refine (callsIn_wide (n := 9)).1 (callsIn_of_wp_marks Try.func6 rfl trivial ?_ rfl)
  simp only [Try.ntmps6, List.size_toArray, List.length_cons, List.length_nil, Nat.reduceAdd, Nat.reduceSub, Array.replicate_succ, Array.replicate_zero, List.push_toArray, List.append_toArray, List.nil_append, List.cons_append]
  gi_wp2
  refine ⟨trivial, (callsIn_wide.2 (partsFor_any p a n cap bits _)).mono ?_⟩
  rintro e w7 ⟨rfl, hw7⟩
  obtain ⟨os, hos⟩ : ∃ os : List Obj, os = [.cells #[.bool p.s, .int .i64 p.H.toInt, .int .i64 p.L.toInt, .int .i64 p.b] 27, .cells #[.int .i64 bits] 3, .cells #[.bool false, .int .i64 0, .int .i64 0, .int .i64 0] 27, .cells #[.bool false] 4, .cells #[.bool p.s, .int .i64 p.H.toInt, .int .i64 p.L.toInt, .int .i64 p.b] 27, .cells #[.slice a n cap] 28, .cells #[.int .i64 bits] 3] := ⟨_, rfl⟩
  have hw : w7 = allocs w os := by rw [hos]; exact hw7
  have hz : w7.heap.size = w.heap.size + 7 := by rw [hw, allocs_size, hos]; rfl
  have hb : Below w.heap.size w w7 := by rw [hw]; exact allocs_below os w
  have hat : ∀ i o, os[i]? = some o → w7.heap[w.heap.size + i]? = some o := by rw [hw]; exact allocs_at os w
  subst hos
  have h1 := hat 1 _ rfl
  have h2 := hat 2 _ rfl
  have h3 := hat 3 _ rfl
  have h4 := hat 4 _ rfl
  have h5 := hat 5 _ rfl
  have h6 := hat 6 _ rfl
  have HB := hidP hb
  have H1 := hidP h1
  have H2 := hidP h2
  have H3 := hidP h3
  have HIt := hidP (HP.out w7 (w.heap.size + 6) (w.heap.size + 4) (w.heap.size + 5) hb (of1 h6).1 (of4 h4).1 (of1 h5).1 (by omega) (by omega) (by omega) (by omega))
  clear hw7 hw hat hb h1 h2 h3 h4 h5 h6
  gi_wp2
  refine wp_range (gf := 31) (lb := #[.pointer (some ⟨w.heap.size + 6, 0, none⟩), .pointer (some ⟨w.heap.size + 4, 0, none⟩), .pointer (some ⟨w.heap.size + 5, 0, none⟩)]) rfl (enters_of Try.func31 (by kernel_rfl) rfl) HIt.out (fun _ => rfl) (fun k h => by omega)
    (fun pre M V => pre = [] ∧ M = frM w.heap.size ∧ V.heap[w.heap.size + 1]? = some (.cells #[.int .i64 bits] 3) ∧ V.heap[w.heap.size + 2]? = some (.cells #[.bool false, .int .i64 0, .int .i64 0, .int .i64 0] 27) ∧ V.heap[w.heap.size + 3]? = some (.cells #[.bool false] 4))
    (fun c pre M V => c = .ret ∧ M = frM w.heap.size ∧ ∃ z : Sp, pre = [z] ∧ V.heap[w.heap.size + 2]? = some (.cells #[.bool z.s, .int .i64 z.H.toInt, .int .i64 z.L.toInt, .int .i64 bits] 27) ∧ V.heap[w.heap.size + 3]? = some (.cells #[.bool true] 4))
    (fun pre M A B h hk => ?hI) (fun c pre M A B h hk => ?hX) (frM w.heap.size) (fun k h => by unfold frM at h; omega) (fun k h hm => by unfold frM at hm; omega) ⟨rfl, rfl, H1.out, H2.out, H3.out⟩ ?round ?done ?stop
  case hI =>
    obtain ⟨rfl, rfl, h1, h2, h3⟩ := h
    exact ⟨rfl, rfl, hk.at (Or.inl rfl) h1, hk.at (Or.inr (Or.inl rfl)) h2, hk.at (Or.inr (Or.inr rfl)) h3⟩
  case hX =>
    obtain ⟨rfl, rfl, z, rfl, h2, h3⟩ := h
    exact ⟨rfl, rfl, z, rfl, hk.at (Or.inr (Or.inl rfl)) h2, hk.at (Or.inr (Or.inr rfl)) h3⟩
  case stop =>
    rintro D c pre M1 V hD hDl hMD hpre ⟨rfl, rfl, z, rfl, h2, h3⟩ hg hK
    obtain ⟨t, rfl⟩ := hpre
    have k2 := (World.putObj_heap_other (w := V) (o := .deferred none) (show w.heap.size + 2 ≠ D by omega)).trans h2
    have k3 := (World.putObj_heap_other (w := V) (o := .deferred none) (show w.heap.size + 3 ≠ D by omega)).trans h3
    obtain ⟨⟨g0, g1, g2, g3⟩, _⟩ := of4 k2
    have g4 := (of1 k3).1
    have HE := hidP (bel_end HB.out hg (fun k h => by unfold frM at h; omega) hD (.deferred none))
    clear h2 h3 k2 k3 hg
    gi_wp2
    refine ⟨by simp, .inl ⟨_, _, rfl, run_takeDeferred hK, ?_⟩⟩
    exact ⟨.tuple #[.agg #[.bool z.s, .int .i64 z.H.toInt, .int .i64 z.L.toInt, .int .i64 bits], .bool true], by simp [results, Try.results6, go_sem, g0, g1, g2, g3, g4], rfl, HE.out⟩
  case done =>
    rintro D M1 V hD hDl hMD ⟨rfl, rfl, h1, h2, h3⟩ hg hK
    have G1 : Grw (frM w.heap.size) (frM w.heap.size) V (((((V.setCell ⟨w.heap.size + 2, 0, none⟩ (.bool false)).setCell ⟨w.heap.size + 2, 1, none⟩ (.int .i64 0)).setCell ⟨w.heap.size + 2, 2, none⟩ (.int .i64 0)).setCell ⟨w.heap.size + 2, 3, none⟩ (.int .i64 0)).setCell ⟨w.heap.size + 3, 0, none⟩ (.bool false)) :=
      ((((Grw.refl hg.fit).set _ _ (Or.inr (Or.inl rfl))).set _ _ (Or.inr (Or.inl rfl))).set _ _ (Or.inr (Or.inl rfl))).set _ _ (Or.inr (Or.inl rfl)) |>.set _ _ (Or.inr (Or.inr rfl))
    have HK := hidP ((G1.kept.block D hDl hMD).trans hK)
    have e2 := setO (k := w.heap.size + 2) (p := ⟨w.heap.size + 3, 0, none⟩) (u := .bool false) (show w.heap.size + 2 ≠ w.heap.size + 3 by omega) (set4 (a' := .bool false) (b' := .int .i64 0) (c' := .int .i64 0) (d' := .int .i64 0) h2)
    have e3 := set1 (u := .bool false) (setO (p := ⟨w.heap.size + 2, 3, none⟩) (u := .int .i64 0) (show w.heap.size + 3 ≠ w.heap.size + 2 by omega) (setO (p := ⟨w.heap.size + 2, 2, none⟩) (u := .int .i64 0) (show w.heap.size + 3 ≠ w.heap.size + 2 by omega) (setO (p := ⟨w.heap.size + 2, 1, none⟩) (u := .int .i64 0) (show w.heap.size + 3 ≠ w.heap.size + 2 by omega) (setO (p := ⟨w.heap.size + 2, 0, none⟩) (u := .bool false) (show w.heap.size + 3 ≠ w.heap.size + 2 by omega) h3))))
    have k2 := fun o => (World.putObj_heap_other (o := o) (show w.heap.size + 2 ≠ D by omega)).trans e2
    have k3 := fun o => (World.putObj_heap_other (o := o) (show w.heap.size + 3 ≠ D by omega)).trans e3
    obtain ⟨⟨g0, g1, g2, g3⟩, _⟩ := of4 (k2 (.deferred none))
    have g4 := (of1 (k3 (.deferred none))).1
    obtain ⟨⟨v0, v1, v2, v3⟩, f0, f1, f2, f3⟩ := of4 h2
    obtain ⟨v4, f4⟩ := of1 h3
    have lz2 := lt_heap h2
    have lz3 := lt_heap h3
    have HE := hidP (bel_end HB.out (hg.trans G1) (fun k h => by unfold frM at h; omega) hD (.deferred none))
    have HG := hidP (And.intro g0 (And.intro g1 (And.intro g2 (And.intro g3 g4))))
    clear h1 h2 h3 k2 k3 hg e2 e3 G1 g0 g1 g2 g3 g4
    gi_wp2
    refine ⟨by simp, .inl ⟨_, _, rfl, run_takeDeferred HK.out, ?_⟩⟩
    obtain ⟨g0, g1, g2, g3, g4⟩ := HG.out
    exact ⟨.tuple #[.agg #[.bool false, .int .i64 0, .int .i64 0, .int .i64 0], .bool false], by simp [results, Try.results6, go_sem, g0, g1, g2, g3, g4], rfl, HE.out⟩
  case round =>
    intro l' pre x M1 V _ hf hl' _ hlt hpre
    unfold encP
    refine rnd_of ?_
    intro K' HK'
    have HF0 := hidP hf
    clear hf hl' hpre
    gi_wp2
    refine HK'.out _ _ ⟨(Below.refl _ V).alloc (Nat.le_refl _) _, ?_⟩
    clear HK'
    rintro V2 hk2 hs2 ⟨rfl, rfl, h1, h2, h3⟩
    obtain ⟨x0, x1, x2, x3⟩ := box_cells V 27 x.pre
    have lV : V.heap.size < (V.alloc (.cells #[.bool x.s, .int .i64 x.H.toInt, .int .i64 x.L.toInt, .int .i64 ((wd x.s : Int) - x.n)] 27)).heap.size := by simp
    have nV : V.heap.size ≠ l' := by omega
    have y0 := (hk2.cell (p := ⟨V.heap.size, 0, none⟩) lV nV).trans x0
    have y1 := (hk2.cell (p := ⟨V.heap.size, 1, none⟩) lV nV).trans x1
    have y2 := (hk2.cell (p := ⟨V.heap.size, 2, none⟩) lV nV).trans x2
    have hVs : V.heap.size < V2.heap.size := by rw [hs2]; exact lV
    obtain ⟨⟨v0, v1, v2, v3⟩, f0, f1, f2, f3⟩ := of4 h2
    obtain ⟨v4, f4⟩ := of1 h3
    have v5 := (of1 h1).1
    have lz1 := lt_heap h1
    have lz2 := lt_heap h2
    have lz3 := lt_heap h3
    dsimp only [Sp.pre] at y0 y1 y2
    have fit2 : ∀ k, frM w.heap.size k → k < V2.heap.size := fun k h => by have := HF0.out k h; omega
    have HG : Hid (Grw (frM w.heap.size) (frM w.heap.size) V2 (((((V2.setCell ⟨w.heap.size + 2, 0, none⟩ (.bool x.s)).setCell ⟨w.heap.size + 2, 1, none⟩ (.int .i64 x.H.toInt)).setCell ⟨w.heap.size + 2, 2, none⟩ (.int .i64 x.L.toInt)).setCell ⟨w.heap.size + 2, 3, none⟩ (.int .i64 bits)).setCell ⟨w.heap.size + 3, 0, none⟩ (.bool true))) :=
      hidP (((((Grw.refl fit2).set _ _ (Or.inr (Or.inl rfl))).set _ _ (Or.inr (Or.inl rfl))).set _ _ (Or.inr (Or.inl rfl))).set _ _ (Or.inr (Or.inl rfl)) |>.set _ _ (Or.inr (Or.inr rfl)))
    have E2 := hidP (setO (k := w.heap.size + 2) (p := ⟨w.heap.size + 3, 0, none⟩) (u := .bool true) (show w.heap.size + 2 ≠ w.heap.size + 3 by omega) (set4 (a' := .bool x.s) (b' := .int .i64 x.H.toInt) (c' := .int .i64 x.L.toInt) (d' := .int .i64 bits) h2))
    have E3 := hidP (set1 (u := .bool true) (setO (p := ⟨w.heap.size + 2, 3, none⟩) (u := .int .i64 bits) (show w.heap.size + 3 ≠ w.heap.size + 2 by omega) (setO (p := ⟨w.heap.size + 2, 2, none⟩) (u := .int .i64 x.L.toInt) (show w.heap.size + 3 ≠ w.heap.size + 2 by omega) (setO (p := ⟨w.heap.size + 2, 1, none⟩) (u := .int .i64 x.H.toInt) (show w.heap.size + 3 ≠ w.heap.size + 2 by omega) (setO (p := ⟨w.heap.size + 2, 0, none⟩) (u := .bool x.s) (show w.heap.size + 3 ≠ w.heap.size + 2 by omega) h3)))))
    clear hk2 hs2 h1 h2 h3 x0 x1 x2 x3 lV nV fit2
    gi_wp2
    exact ⟨frM w.heap.size, ⟨rfl, rfl, x, rfl, E2.out, E3.out⟩, HG.out⟩

end Go.Proofs.Ytnlnigelecmobaa
namespace Go.Proofs.Ytnlnigelecmobaa
open Go.RowKit

theorem left_sub : ∀ (k : Nat) (x : Sp) (l : List Sp), x.ok → x.n = k → ∀ t ∈ leftM k x l, t.s = x.s ∧ t.n ≤ k
  | 0, x, l, hx, hn, t, ht => by
      unfold leftM at ht
      split at ht
      · cases ht
      · rw [List.mem_singleton] at ht; subst ht; exact ⟨rfl, by omega⟩
  | k + 1, x, l, hx, hn, t, ht => by
      unfold leftM at ht
      split at ht
      · cases ht
      · split at ht
        · rw [List.mem_singleton] at ht; subst ht; exact ⟨rfl, by omega⟩
        · rcases List.mem_append.1 ht with h | h
          · have := left_sub k (lowS x k) _ (low_ok hx hn) rfl t h
            exact ⟨this.1, by omega⟩
          · have := left_sub k (uppS x k) _ (upp_ok hx hn) rfl t h
            exact ⟨this.1, by omega⟩

/-- What partsFor hands out of what is left, where bits are asked as told, and where not. -/
theorem part_yes {x : Sp} {xs : List Sp} {bits : Int} (h : askB x.pre (xs.map Sp.pre) bits = true) : partL x.pre.s bits (leftM x.n x xs) = (leftM x.n x xs).filter (roomP bits) := by
  unfold askB at h
  rw [Bool.and_eq_true, decide_eq_true_eq] at h
  have h2 := h.2.2
  unfold partL
  rw [if_neg (by omega)]
theorem part_not {x : Sp} (hx : x.ok) {xs : List Sp} (hr : rightP (xs.map Sp.pre) = true) {bits : Int} (h : askB x.pre (xs.map Sp.pre) bits = false) : partL x.pre.s bits (leftM x.n x xs) = [] := by
  have hp : x.pre.pok = true := hx.pok
  unfold askB at h
  rw [hp, hr, Bool.true_and, Bool.true_and, decide_eq_false_iff_not] at h
  unfold partL
  split
  · rfl
  · rename_i hw
    rw [List.filter_eq_nil_iff]
    intro t ht hc
    have hs := left_sub x.n x xs hx rfl t ht
    unfold roomP at hc
    rw [decide_eq_true_eq, hs.1] at hc
    have h2 := hs.2
    apply h
    constructor
    · show (wd x.s : Int) - x.n ≤ bits
      omega
    · show bits ≤ (wd x.s : Int)
      have : ¬ (wd x.s : Int) < bits := hw
      omega

theorem room_snoc (bits : Int) (ys : List Sp) (i : Nat) (t : Sp) (h : ys[i]? = some t) (h0 : (ys.take i).filter (roomP bits) = []) (h1 : roomP bits t = false) : (ys.take (i + 1)).filter (roomP bits) = [] := by
  rw [List.take_add_one, h, List.filter_append, h0]
  simp [h1]
theorem frs_at (bits : Int) (ys : List Sp) (i : Nat) (t : Sp) (h : ys[i]? = some t) (h0 : (ys.take i).filter (roomP bits) = []) (h1 : roomP bits t = true) : frsV bits (ys.filter (roomP bits)) = .tuple #[.agg #[.bool t.s, .int .i64 t.H.toInt, .int .i64 t.L.toInt, .int .i64 bits], .bool true] := by
  have e : ys = ys.take i ++ t :: ys.drop (i + 1) := by
    obtain ⟨hi, rfl⟩ := List.getElem?_eq_some_iff.1 h
    rw [← List.drop_eq_getElem_cons hi, List.take_append_drop]
  rw [e, List.filter_append, h0, List.nil_append, List.filter_cons_of_pos h1]
  rfl

set_option maxRecDepth 10000 in
set_option maxHeartbeats 2000000 in
theorem sFirst_no (p : Pf) (a : Option Addr) (cap : Nat) (ps : List Pf) (bits : Int) (w : World) (hB : Row w a ps) (hl : ps.length ≤ 1048576) (hno : askB p ps bits = false) :
    Calls Try.prog 7 #[.agg #[.bool p.s, .int .i64 p.H.toInt, .int .i64 p.L.toInt, .int .i64 p.b], .slice a ps.length cap, .int .i64 bits] w fun e w' => e = .returned (frsV bits []) ∧ Below w.heap.size w w' := by
  have HA : Hid (∀ (wx : World) (_ : Row wx a ps), Calls Try.prog 16 #[.agg #[.bool p.s, .int .i64 p.H.toInt, .int .i64 p.L.toInt, .int .i64 p.b], .slice a ps.length cap, .int .i64 bits] wx fun e w' => e = .returned (.bool false) ∧ Below wx.heap.size wx w') := hidP fun wx h => by
    have := l4Asked_any p a cap ps bits wx h hl
    rw [hno] at this; exact this
  have HB := hidP hB
  obtain ⟨n, hn⟩ : ∃ n, n = ps.length := ⟨_, rfl⟩
  rw [← hn] at hl HA ⊢
  clear hB hn hno
  go_enter Try.func7, Try.ntmps7
  go_wp2_with fail
  obtain ⟨os, hos⟩ : ∃ os : List Obj, os = [.cells #[.bool p.s, .int .i64 p.H.toInt, .int .i64 p.L.toInt, .int .i64 p.b] 27, .cells #[.bool false, .int .i64 0, .int .i64 0, .int .i64 0] 27] := ⟨_, rfl⟩
  obtain ⟨W, hW⟩ : ∃ W, W = allocs w os := ⟨_, rfl⟩
  have hWe : (w.alloc (.cells #[.bool p.s, .int .i64 p.H.toInt, .int .i64 p.L.toInt, .int .i64 p.b] 27)).alloc (.cells #[.bool false, .int .i64 0, .int .i64 0, .int .i64 0] 27) = W := by rw [hW, hos]; rfl
  have hb1 : Below w.heap.size w W := by rw [hW]; exact allocs_below os w
  have h1 : W.heap[w.heap.size + 1]? = some (.cells #[.bool false, .int .i64 0, .int .i64 0, .int .i64 0] 27) := by rw [hW]; exact allocs_at os w 1 _ (by rw [hos]; rfl)
  rw [hWe]
  have HB1 := hidP hb1
  clear hW hWe hos hb1
  refine (HA.out W (HB.out.later HB1.out)).mono ?_
  rintro e w2 ⟨rfl, hb2⟩
  have k1 := (hb2.block _ (lt_heap h1)).trans h1
  obtain ⟨⟨v0, v1, v2, v3⟩, f0, f1, f2, f3⟩ := of4 k1
  have lz := lt_heap k1
  obtain ⟨⟨g0, g1, g2, g3⟩, _⟩ := of4 (set4 (a' := .bool false) (b' := .int .i64 0) (c' := .int .i64 0) (d' := .int .i64 0) k1)
  have HG := hidP (And.intro g0 (And.intro g1 (And.intro g2 g3)))
  have HB2 := hidP (HB1.out.trans (hb2.mono HB1.out.size))
  clear h1 k1 hb2 g0 g1 g2 g3
  go_wp2_with fail
  obtain ⟨g0, g1, g2, g3⟩ := HG.out
  refine bodyPost_ret (v := .tuple #[.agg #[.bool false, .int .i64 0, .int .i64 0, .int .i64 0], .bool false]) (by simp [results, Try.results7, go_sem, g0, g1, g2, g3]) rfl ⟨rfl, ?_⟩
  exact (((HB2.out.setCell (p := ⟨w.heap.size + 1, 0, none⟩) (Nat.le_succ _) _).setCell (p := ⟨w.heap.size + 1, 1, none⟩) (Nat.le_succ _) _).setCell (p := ⟨w.heap.size + 1, 2, none⟩) (Nat.le_succ _) _).setCell (p := ⟨w.heap.size + 1, 3, none⟩) (Nat.le_succ _) _

set_option maxRecDepth 10000 in
set_option maxHeartbeats 2000000 in
theorem sFirst_yes (x : Sp) (hx : x.ok) (a : Option Addr) (cap : Nat) (xs : List Sp) (hxs : ∀ t ∈ xs, t.ok) (bits : Int) (w : World) (hB : Row w a (xs.map Sp.pre)) (hl : xs.length ≤ 300) (hask : askB x.pre (xs.map Sp.pre) bits = true) :
    Calls Try.prog 7 #[.agg #[.bool x.s, .int .i64 x.H.toInt, .int .i64 x.L.toInt, .int .i64 ((wd x.s : Int) - (x.n : Int))], .slice a xs.length cap, .int .i64 bits] w fun e w' => e = .returned (frsV bits ((leftM x.n x xs).filter (roomP bits))) ∧ Below w.heap.size w w' := by
  have HA : Hid (∀ (wx : World) (_ : Row wx a (xs.map Sp.pre)), Calls Try.prog 16 #[.agg #[.bool x.s, .int .i64 x.H.toInt, .int .i64 x.L.toInt, .int .i64 ((wd x.s : Int) - (x.n : Int))], .slice a xs.length cap, .int .i64 bits] wx fun e w' => e = .returned (.bool true) ∧ Below wx.heap.size wx w') := hidP fun wx h => by
    have h1 := l4Asked_any x.pre a cap (xs.map Sp.pre) bits wx h (by rw [List.length_map]; omega)
    rw [hask, List.length_map] at h1; exact h1
  have HL : Hid (∀ (wx : World) (_ : Row wx a (xs.map Sp.pre)), _) := hidP fun wx h => l2Left_all x.n x hx rfl xs hxs hl a cap wx h
  have hlen := left_le hx xs hl
  have HB := hidP hB
  obtain ⟨ys, hys⟩ : ∃ ys, ys = leftM x.n x xs := ⟨_, rfl⟩
  rw [← hys] at HL hlen ⊢
  obtain ⟨n, hn⟩ : ∃ n, n = xs.length := ⟨_, rfl⟩
  rw [← hn] at hl HA HL ⊢
  obtain ⟨m, hm⟩ : ∃ m, m = ys.length := ⟨_, rfl⟩
  rw [← hm] at HL hlen
  have HM := hidP hm
  clear hB hn hask hx hxs hys hm
  go_enter Try.func7, Try.ntmps7
  go_wp2_with fail
  obtain ⟨os, hos⟩ : ∃ os : List Obj, os = [.cells #[.bool x.s, .int .i64 x.H.toInt, .int .i64 x.L.toInt, .int .i64 ((wd x.s : Int) - (x.n : Int))] 27, .cells #[.bool false, .int .i64 0, .int .i64 0, .int .i64 0] 27] := ⟨_, rfl⟩
  obtain ⟨W, hW⟩ : ∃ W, W = allocs w os := ⟨_, rfl⟩
  have hWe : (w.alloc (.cells #[.bool x.s, .int .i64 x.H.toInt, .int .i64 x.L.toInt, .int .i64 ((wd x.s : Int) - (x.n : Int))] 27)).alloc (.cells #[.bool false, .int .i64 0, .int .i64 0, .int .i64 0] 27) = W := by rw [hW, hos]; rfl
  have hb1 : Below w.heap.size w W := by rw [hW]; exact allocs_below os w
  have hsz : W.heap.size = w.heap.size + 2 := by rw [hW, allocs_size, hos]; rfl
  have h0 : W.heap[w.heap.size]? = some (.cells #[.bool x.s, .int .i64 x.H.toInt, .int .i64 x.L.toInt, .int .i64 ((wd x.s : Int) - (x.n : Int))] 27) := by rw [hW]; exact allocs_at os w 0 _ (by rw [hos]; rfl)
  have h1 : W.heap[w.heap.size + 1]? = some (.cells #[.bool false, .int .i64 0, .int .i64 0, .int .i64 0] 27) := by rw [hW]; exact allocs_at os w 1 _ (by rw [hos]; rfl)
  rw [hWe]
  have HB1 := hidP hb1
  clear hW hWe hos hb1
  refine (HA.out W (HB.out.later HB1.out)).mono ?_
  rintro e w2 ⟨rfl, hb2⟩
  have j0 := (hb2.block _ (lt_heap h0)).trans h0
  have j1 := (hb2.block _ (lt_heap h1)).trans h1
  obtain ⟨⟨d0, d1, d2, d3⟩, _⟩ := of4 j0
  have HJ1 := hidP j1
  have lz0 := lt_heap j0
  have HB2 := hidP (HB1.out.trans (hb2.mono HB1.out.size))
  clear h0 h1 j0 j1 hb2
  go_wp2_with fail
  refine (HL.out w2 (HB.out.later HB2.out)).mono ?_
  rintro e w4 ⟨a4, c4, rfl, ho4, hb4⟩
  have k1 := (hb4.block _ (lt_heap HJ1.out)).trans HJ1.out
  obtain ⟨⟨v0, v1, v2, v3⟩, f0, f1, f2, f3⟩ := of4 k1
  have lz := lt_heap k1
  have HS4 : Hid (∀ q : Pf, (((((w4.setCell ⟨w.heap.size + 1, 0, none⟩ (.bool q.s)).setCell ⟨w.heap.size + 1, 1, none⟩ (.int .i64 q.H.toInt)).setCell ⟨w.heap.size + 1, 2, none⟩ (.int .i64 q.L.toInt)).setCell ⟨w.heap.size + 1, 3, none⟩ (.int .i64 q.b)).heap[w.heap.size + 1]? = some (.cells #[.bool q.s, .int .i64 q.H.toInt, .int .i64 q.L.toInt, .int .i64 q.b] 27))) := hidP fun q => set4 k1
  have HZ4 := hidP (of4 (set4 (a' := .bool false) (b' := .int .i64 0) (c' := .int .i64 0) (d' := .int .i64 0) k1)).1
  have HR4 := hidP ho4.row
  have HB4 := hidP (HB2.out.trans (hb4.mono HB2.out.size))
  have HE : Hid (∀ q : Pf, Below w.heap.size w ((((w4.setCell ⟨w.heap.size + 1, 0, none⟩ (.bool q.s)).setCell ⟨w.heap.size + 1, 1, none⟩ (.int .i64 q.H.toInt)).setCell ⟨w.heap.size + 1, 2, none⟩ (.int .i64 q.L.toInt)).setCell ⟨w.heap.size + 1, 3, none⟩ (.int .i64 q.b))) := hidP fun q => (((HB4.out.setCell (p := ⟨w.heap.size + 1, 0, none⟩) (Nat.le_succ _) _).setCell (p := ⟨w.heap.size + 1, 1, none⟩) (Nat.le_succ _) _).setCell (p := ⟨w.heap.size + 1, 2, none⟩) (Nat.le_succ _) _).setCell (p := ⟨w.heap.size + 1, 3, none⟩) (Nat.le_succ _) _
  clear ho4 hb4 k1 d0 d1 d2 d3 lz0 HJ1
  go_wp2_with fail
  go_loopw [9] (fun t9 wr => ∃ i : Nat, i ≤ m ∧ t9 = .int .i64 i ∧ (ys.take i).filter (roomP bits) = [] ∧ w4 = wr) (fun t9 _ => m - (intOf t9).toNat)
  case atStart => exact ⟨0, Nat.zero_le _, rfl, by simp, rfl⟩
  case round =>
    obtain ⟨i, hi, rfl, hfl, rfl⟩ := hrel
    have HF := hidP hfl
    clear hfl
    by_cases hlt : i < m
    · obtain ⟨q, o, t, rfl, hq, ht, e0, e1, e2, e3⟩ := HR4.out.pre i (by rw [← HM.out]; exact hlt)
      have HT := hidP ht
      clear ht
      cases hr : decide ((wd t.s : Int) - t.n ≤ bits)
      · have HN := hidP (room_snoc bits ys i t HT.out HF.out hr)
        go_wp2_with fail
        go_roundw
        case rel => exact ⟨i + 1, by omega, by go_num, HN.out, by first | rfl | trivial⟩
        case measure => simp [intOf]; omega
      · have HN := hidP (frs_at bits ys i t HT.out HF.out hr)
        go_wp2_with fail
        obtain ⟨⟨g0, g1, g2, g3⟩, _⟩ := of4 (HS4.out ⟨t.s, t.H, t.L, bits⟩)
        refine bodyPost_ret (v := .tuple #[.agg #[.bool t.s, .int .i64 t.H.toInt, .int .i64 t.L.toInt, .int .i64 bits], .bool true]) (by simp [results, Try.results7, go_sem, g0, g1, g2, g3]) rfl ⟨by rw [HN.out], HE.out ⟨t.s, t.H, t.L, bits⟩⟩
    · have hin : i = m := by omega
      subst hin
      have hfe : ys.filter (roomP bits) = [] := by have := HF.out; rw [HM.out, List.take_length] at this; exact this
      have HN := hidP hfe
      clear hfe
      go_wp2_with fail
      obtain ⟨g0, g1, g2, g3⟩ := HZ4.out
      refine bodyPost_ret (v := .tuple #[.agg #[.bool false, .int .i64 0, .int .i64 0, .int .i64 0], .bool false]) (by simp [results, Try.results7, go_sem, g0, g1, g2, g3]) rfl ⟨by rw [HN.out]; rfl, ?_⟩
      exact (((HB4.out.setCell (p := ⟨w.heap.size + 1, 0, none⟩) (Nat.le_succ _) _).setCell (p := ⟨w.heap.size + 1, 1, none⟩) (Nat.le_succ _) _).setCell (p := ⟨w.heap.size + 1, 2, none⟩) (Nat.le_succ _) _).setCell (p := ⟨w.heap.size + 1, 3, none⟩) (Nat.le_succ _) _

end Go.Proofs.Ytnlnigelecmobaa
namespace Go.Proofs.Ytnlnigelecmobaa
open Go.RowKit

attribute [local go_sem] Oper.semAt_some

def fitN (d : Int) : Int := 2 ^ (min d 62).toNat
def cnt1 (bits : Int) (c : Int) (x : Sp) : Int := c + min (fitN (bits - ((wd x.s : Int) - x.n))) (4611686018427387904 - c)
def cnt (bits : Int) (zs : List Sp) : Int := zs.foldl (cnt1 bits) 0
theorem cnt_snoc (bits : Int) (zs : List Sp) (x : Sp) : cnt bits (zs ++ [x]) = cnt1 bits (cnt bits zs) x := by unfold cnt; rw [List.foldl_append]; rfl
theorem fit_pos (d : Int) : 0 < fitN d := by unfold fitN; exact Int.pow_pos (by omega)
theorem fit_le (d : Int) : fitN d ≤ 4611686018427387904 := by
  unfold fitN
  have h : (min d 62).toNat ≤ 62 := by omega
  have h2 : (2 : Nat) ^ (min d 62).toNat ≤ 2 ^ 62 := Nat.pow_le_pow_right (by omega) h
  have h3 : ((2 : Int) ^ (min d 62).toNat) = ((2 ^ (min d 62).toNat : Nat) : Int) := by norm_cast
  rw [h3]
  have h4 : (2 : Nat) ^ 62 = 4611686018427387904 := by decide
  omega
theorem cnt1_bd (bits c : Int) (x : Sp) (h0 : 0 ≤ c) (h1 : c ≤ 4611686018427387904) : c ≤ cnt1 bits c x ∧ cnt1 bits c x ≤ 4611686018427387904 := by
  unfold cnt1
  have := fit_pos (bits - ((wd x.s : Int) - x.n))
  omega
theorem cntF_bd (bits : Int) : ∀ (zs : List Sp) (c : Int), 0 ≤ c → c ≤ 4611686018427387904 → c ≤ zs.foldl (cnt1 bits) c ∧ zs.foldl (cnt1 bits) c ≤ 4611686018427387904
  | [], c, _, h1 => ⟨Int.le_refl _, h1⟩
  | x :: t, c, h0, h1 => by
      have h := cnt1_bd bits c x h0 h1
      have h2 := cntF_bd bits t (cnt1 bits c x) (by omega) h.2
      exact ⟨Int.le_trans h.1 h2.1, h2.2⟩
theorem cnt_bd (bits : Int) (zs : List Sp) : 0 ≤ cnt bits zs ∧ cnt bits zs ≤ 4611686018427387904 := cntF_bd bits zs 0 (by omega) (by omega)
def cM (s : Nat) (k : Nat) : Prop := k = s + 1 ∨ k = s + 2
theorem wrap_id (x : Int) (h0 : -9223372036854775808 ≤ x) (h1 : x ≤ 9223372036854775807) : IntKind.i64.wrap x = x := by rw [← w64]; unfold wrap64; omega

set_option maxRecDepth 10000 in
set_option maxHeartbeats 2000000 in
theorem iCnt (p : Pf) (a : Option Addr) (n cap : Nat) (bits : Int) (w : World) (zs : List Sp) (hzs : ∀ z ∈ zs, 0 ≤ bits - ((wd z.s : Int) - z.n) ∧ bits - ((wd z.s : Int) - z.n) ≤ 128) (hP : PartGives p a n cap bits w zs) :
    Calls Try.prog 8 #[.agg #[.bool p.s, .int .i64 p.H.toInt, .int .i64 p.L.toInt, .int .i64 p.b], .slice a n cap, .int .i64 bits] w fun e w' => e = .returned (.int .i64 (cnt bits zs)) ∧ Below w.heap.size w w' := by
  have HP := hidP hP
  have HZs := hidP hzs
  clear hP hzs
  refine (callsIn_wide (n := 9)).1 (callsIn_of_wp_marks Try.func8 rfl trivial ?_ rfl)
  simp only [Try.ntmps8, List.size_toArray, List.length_cons, List.length_nil, Nat.reduceAdd, Nat.reduceSub, Array.replicate_succ, Array.replicate_zero, List.push_toArray, List.append_toArray, List.nil_append, List.cons_append]
  gi_wp2
  refine ⟨trivial, (callsIn_wide.2 (partsFor_any p a n cap bits _)).mono ?_⟩
  rintro e w7 ⟨rfl, hw7⟩
  obtain ⟨os, hos⟩ : ∃ os : List Obj, os = [.cells #[.bool p.s, .int .i64 p.H.toInt, .int .i64 p.L.toInt, .int .i64 p.b] 27, .cells #[.int .i64 bits] 3, .cells #[.int .i64 0] 3, .cells #[.bool p.s, .int .i64 p.H.toInt, .int .i64 p.L.toInt, .int .i64 p.b] 27, .cells #[.slice a n cap] 28, .cells #[.int .i64 bits] 3] := ⟨_, rfl⟩
  have hw : w7 = allocs w os := by rw [hos]; exact hw7
  have hz : w7.heap.size = w.heap.size + 6 := by rw [hw, allocs_size, hos]; rfl
  have hb : Below w.heap.size w w7 := by rw [hw]; exact allocs_below os w
  have hat : ∀ i o, os[i]? = some o → w7.heap[w.heap.size + i]? = some o := by rw [hw]; exact allocs_at os w
  subst hos
  have h1 := hat 1 _ rfl
  have h2 := hat 2 _ rfl
  have h3 := hat 3 _ rfl
  have h4 := hat 4 _ rfl
  have h5 := hat 5 _ rfl
  have HB := hidP hb
  have H1 := hidP h1
  have H2 := hidP h2
  have HIt := hidP (HP.out w7 (w.heap.size + 5) (w.heap.size + 3) (w.heap.size + 4) hb (of1 h5).1 (of4 h3).1 (of1 h4).1 (by omega) (by omega) (by omega) (by omega))
  clear hw7 hw hat hb h1 h2 h3 h4 h5
  gi_wp2
  refine wp_range (gf := 31) (lb := #[.pointer (some ⟨w.heap.size + 5, 0, none⟩), .pointer (some ⟨w.heap.size + 3, 0, none⟩), .pointer (some ⟨w.heap.size + 4, 0, none⟩)]) rfl (enters_of Try.func31 (by kernel_rfl) rfl) HIt.out (fun _ => rfl) (fun k h => by omega)
    (fun pre M V => M = cM w.heap.size ∧ V.heap[w.heap.size + 1]? = some (.cells #[.int .i64 bits] 3) ∧ V.heap[w.heap.size + 2]? = some (.cells #[.int .i64 (cnt bits pre)] 3))
    (fun _ _ _ _ => False)
    (fun pre M A B h hk => ?hI) (fun c pre M A B h hk => h.elim) (cM w.heap.size) (fun k h => by unfold cM at h; omega) (fun k h hm => by unfold cM at hm; omega) ⟨rfl, H1.out, H2.out⟩ ?round ?done ?stop
  case hI =>
    obtain ⟨rfl, h1, h2⟩ := h
    exact ⟨rfl, hk.at (Or.inl rfl) h1, hk.at (Or.inr rfl) h2⟩
  case stop =>
    intro D c pre M1 V _ _ _ _ h
    exact h.elim
  case done =>
    rintro D M1 V hD hDl hMD ⟨rfl, h1, h2⟩ hg hK
    obtain ⟨v0, f0⟩ := of1 h2
    have lz2 := lt_heap h2
    have HE := hidP (bel_end HB.out hg (fun k h => by unfold cM at h; omega) hD (.deferred none))
    clear h1 h2 hg
    gi_wp2
    refine ⟨by simp, .inl ⟨_, _, rfl, run_takeDeferred hK, ?_⟩⟩
    exact ⟨_, results_tmp rfl _ _ _, rfl, HE.out⟩
  case round =>
    intro l' pre x M1 V _ hf hl' _ hlt hpre
    unfold encP
    refine rnd_of ?_
    intro K' HK'
    have HF0 := hidP hf
    have hxz : x ∈ zs := by
      obtain ⟨t, rfl⟩ := hpre
      simp
    have hbd := HZs.out x hxz
    clear hf hl' hpre hxz
    gi_wp2
    refine HK'.out _ _ ⟨(Below.refl _ V).alloc (Nat.le_refl _) _, ?_⟩
    clear HK'
    rintro V2 hk2 hs2 ⟨rfl, h1, h2⟩
    obtain ⟨x0, x1, x2, x3⟩ := box_cells V 27 x.pre
    have lV : V.heap.size < (V.alloc (.cells #[.bool x.s, .int .i64 x.H.toInt, .int .i64 x.L.toInt, .int .i64 ((wd x.s : Int) - x.n)] 27)).heap.size := by simp
    have nV : V.heap.size ≠ l' := by omega
    have y3 := (hk2.cell (p := ⟨V.heap.size, 3, none⟩) lV nV).trans x3
    have hVs : V.heap.size < V2.heap.size := by rw [hs2]; exact lV
    dsimp only [Sp.pre] at y3
    have fit2 : ∀ k, cM w.heap.size k → k < V2.heap.size := fun k h => by have := HF0.out k h; omega
    obtain ⟨v1, _⟩ := of1 h1
    obtain ⟨v2, f2⟩ := of1 h2
    have lz1 := lt_heap h1
    have lz2 := lt_heap h2
    have hcb := cnt_bd bits pre
    have HN := hidP (cnt_snoc bits pre x)
    obtain ⟨c, hc⟩ : ∃ c, c = cnt bits pre := ⟨_, rfl⟩
    rw [← hc] at v2 hcb HN h2
    obtain ⟨pb, hpb⟩ : ∃ pb, pb = (wd x.s : Int) - x.n := ⟨_, rfl⟩
    rw [← hpb] at y3 hbd
    obtain ⟨d, hd⟩ : ∃ d, d = bits - pb := ⟨_, rfl⟩
    have hdw : IntKind.i64.wrap (bits - pb) = d := by rw [wrap_id _ (by omega) (by omega), hd]
    rw [← hd] at hbd
    have hN2 : cnt bits (pre ++ [x]) = c + min (fitN d) (4611686018427387904 - c) := by rw [HN.out]; unfold cnt1; rw [← hpb, ← hd]
    have HN2 := hidP hN2
    have HFin : Hid (∀ r, r = cnt bits (pre ++ [x]) → ∃ M', (M' = cM w.heap.size ∧ (V2.setCell ⟨w.heap.size + 2, 0, none⟩ (.int .i64 r)).heap[w.heap.size + 1]? = some (.cells #[.int .i64 bits] 3) ∧ (V2.setCell ⟨w.heap.size + 2, 0, none⟩ (.int .i64 r)).heap[w.heap.size + 2]? = some (.cells #[.int .i64 (cnt bits (pre ++ [x]))] 3)) ∧ Grw (cM w.heap.size) M' V2 (V2.setCell ⟨w.heap.size + 2, 0, none⟩ (.int .i64 r))) :=
      hidP fun r hr => ⟨cM w.heap.size, ⟨rfl, setO (show w.heap.size + 1 ≠ w.heap.size + 2 by omega) h1, by rw [← hr]; exact set1 h2⟩, (Grw.refl fit2).set _ _ (Or.inr rfl)⟩
    have hd0 : 0 ≤ d := hbd.1
    have HD := hidP hbd
    have HC := hidP hcb
    obtain ⟨r, hr⟩ : ∃ r, r = 4611686018427387904 - c := ⟨_, rfl⟩
    have hrw : IntKind.i64.wrap (4611686018427387904 - c) = r := by rw [wrap_id _ (by omega) (by omega), hr]
    have hfp := fit_pos d
    have hfl := fit_le d
    obtain ⟨f, hf⟩ : ∃ f, f = fitN d := ⟨_, rfl⟩
    rw [← hf] at hfp hfl
    have HF := hidP hf
    have HR := hidP hr
    have HFp := hidP hfp
    have HFl := hidP hfl
    have HCf : Hid (f ≤ r → IntKind.i64.wrap (c + f) = c + f) := hidP fun h => wrap_id _ (by omega) (by omega)
    have hcr : IntKind.i64.wrap (c + r) = c + r := wrap_id _ (by omega) (by omega)
    clear hk2 hs2 h1 h2 x0 x1 x2 x3 lV nV fit2 hcb HN hc hpb hd hN2 hbd hr hfp hfl
    have fin : ∀ (_ : f ≤ r), Hid (c + f = cnt bits (pre ++ [x])) := fun h => hidP (by rw [HN2.out, ← HF.out, ← HR.out, Int.min_eq_left h])
    have fin2 : ∀ (_ : r ≤ f), Hid (c + r = cnt bits (pre ++ [x])) := fun h => hidP (by rw [HN2.out, ← HF.out, ← HR.out, Int.min_eq_right h])
    have Fin := hidP (And.intro fin fin2)
    clear fin fin2
    by_cases h62 : d < 62
    · have hdd : decide (d < 62) = true := decide_eq_true h62
      have hd64 : d ≤ 64 := by omega
      have hfe : f = 2 ^ d.toNat := by rw [hf]; unfold fitN; rw [Int.min_eq_left (by omega)]
      have hfw : IntKind.i64.wrap (1 * 2 ^ d.toNat) = f := by rw [Int.one_mul, ← hfe]; exact wrap_id _ (by have := HFp.out; omega) (by have := HFl.out; omega)
      have hfw' : IntKind.i64.wrap (2 ^ d.toNat) = f := by rw [← hfe]; exact wrap_id _ (by have := HFp.out; omega) (by have := HFl.out; omega)
      clear hfe hf
      rcases Int.lt_trichotomy f r with hlt' | heq | hgt'
      · have e1 : decide (f < r) = true := decide_eq_true hlt'
        have e2 : decide (r < f) = false := decide_eq_false (by omega)
        have hcf := HCf.out (by omega)
        have E := hidP (Fin.out.1 (by omega)).out
        gi_wp2
        exact HFin.out _ E.out
      · subst heq
        have hcf := HCf.out (by omega)
        have E := hidP (Fin.out.1 (by omega)).out
        gi_wp2
        exact HFin.out _ E.out
      · have e1 : decide (f < r) = false := decide_eq_false (by omega)
        have e2 : decide (r < f) = true := decide_eq_true hgt'
        have E := hidP (Fin.out.2 (by omega)).out
        gi_wp2
        exact HFin.out _ E.out
    · have hdd : decide (d < 62) = false := decide_eq_false h62
      have hd6 : 62 ≤ d := by omega
      have hfe : f = 4611686018427387904 := by rw [hf]; unfold fitN; rw [Int.min_eq_right hd6]; rfl
      subst hfe
      clear hf
      have hw62 : IntKind.i64.wrap 4611686018427387904 = 4611686018427387904 := by decide
      have hw62' : wrap64 4611686018427387904 = 4611686018427387904 := by unfold wrap64; omega
      rcases Int.lt_trichotomy 4611686018427387904 r with hlt' | heq | hgt'
      · exfalso
        have := HR.out
        have := HC.out
        omega
      · subst heq
        have hcf := HCf.out (by omega)
        have E := hidP (Fin.out.1 (by omega)).out
        rcases Int.lt_or_eq_of_le hd6 with hd7 | hd7
        · have e3 : decide (62 < d) = true := decide_eq_true hd7
          have e4 : decide (d ≤ 62) = false := decide_eq_false (by omega)
          clear h62
          gi_wp2
          exact HFin.out _ E.out
        · subst hd7
          clear h62 hdd
          gi_wp2
          exact HFin.out _ E.out
      · have e1 : decide (4611686018427387904 < r) = false := decide_eq_false (by omega)
        have e2 : decide (r < 4611686018427387904) = true := decide_eq_true hgt'
        have E := hidP (Fin.out.2 (by omega)).out
        rcases Int.lt_or_eq_of_le hd6 with hd7 | hd7
        · have e3 : decide (62 < d) = true := decide_eq_true hd7
          have e4 : decide (d ≤ 62) = false := decide_eq_false (by omega)
          clear h62
          gi_wp2
          exact HFin.out _ E.out
        · subst hd7
          clear h62 hdd
          gi_wp2
          exact HFin.out _ E.out

end Go.Proofs.Ytnlnigelecmobaa
namespace Go.Proofs.Ytnlnigelecmobaa
open Go.RowKit

attribute [local go_sem] Oper.semAt_some

theorem wpIn_np {F : Fence} {n : Nat} {P : Program} {c : Code} {K : Act → World → Prop} {N : Exit → Act → World → Prop} {a : Act} {w : World} (h : c.wpIn F n P (Exit.then K (fun _ _ _ => False)) a w) : c.wpIn F n P (Exit.then K N) a w :=
  wpIn_mono h (by intro e a w hq; cases e <;> first | exact hq | exact hq.elim)

def lgStep (o : Option Sp) (x : Sp) : Option Sp := match o with
  | none => some x
  | some y => if ((wd x.s : Int) - x.n) < ((wd y.s : Int) - y.n) then some x else some y
def lgs (ys : List Sp) : Option Sp := ys.foldl lgStep none
theorem lgs_snoc (ys : List Sp) (x : Sp) : lgs (ys ++ [x]) = lgStep (lgs ys) x := by unfold lgs; rw [List.foldl_append]; rfl
def lgP : Option Sp → Pf
  | none => ⟨false, 0, 0, 0⟩
  | some y => y.pre
theorem bel_v {w w7 V : World} {M M' : Nat → Prop} (hb : Below w.heap.size w w7) (hg : Grw M M' w7 V) (hM : ∀ k, M k → w.heap.size ≤ k) : Below w.heap.size w V := by
  have hz := hb.size
  exact ⟨hg.kept.os.trans hb.os, hg.kept.tape.trans hb.tape, hg.kept.output.trans hb.output, by have := hg.kept.size; omega, fun k hk => (hg.kept.block k (by omega) fun h => by have := hM k h; omega).trans (hb.block k hk)⟩
def lgM (s : Nat) (k : Nat) : Prop := k = s + 2 ∨ k = s + 3

set_option maxRecDepth 10000 in
set_option maxHeartbeats 2000000 in
theorem iLarg (p : Pf) (a : Option Addr) (n cap : Nat) (w : World) (ys : List Sp) (hP : LeftGives p a n cap w ys) :
    Calls Try.prog 10 #[.agg #[.bool p.s, .int .i64 p.H.toInt, .int .i64 p.L.toInt, .int .i64 p.b], .slice a n cap] w fun e w' => e = .returned (.tuple #[.agg #[.bool (lgP (lgs ys)).s, .int .i64 (lgP (lgs ys)).H.toInt, .int .i64 (lgP (lgs ys)).L.toInt, .int .i64 (lgP (lgs ys)).b], .bool (lgs ys).isSome]) ∧ Below w.heap.size w w' := by
  have HP := hidP hP
  clear hP
  refine (callsIn_wide (n := 9)).1 (callsIn_of_wp_marks Try.func10 rfl trivial ?_ rfl)
  simp only [Try.ntmps10, List.size_toArray, List.length_cons, List.length_nil, Nat.reduceAdd, Nat.reduceSub, Array.replicate_succ, Array.replicate_zero, List.push_toArray, List.append_toArray, List.nil_append, List.cons_append]
  gi_wp2
  refine ⟨trivial, (callsIn_wide.2 (leftOf_any p a n cap _)).mono ?_⟩
  rintro e w7 ⟨rfl, hw7⟩
  obtain ⟨os, hos⟩ : ∃ os : List Obj, os = [.cells #[.bool p.s, .int .i64 p.H.toInt, .int .i64 p.L.toInt, .int .i64 p.b] 27, .cells #[.bool false, .int .i64 0, .int .i64 0, .int .i64 0] 27, .cells #[.bool false, .int .i64 0, .int .i64 0, .int .i64 0] 27, .cells #[.bool false] 4, .cells #[.bool p.s, .int .i64 p.H.toInt, .int .i64 p.L.toInt, .int .i64 p.b] 27, .cells #[.slice a n cap] 28] := ⟨_, rfl⟩
  have hw : w7 = allocs w os := by rw [hos]; exact hw7
  have hz : w7.heap.size = w.heap.size + 6 := by rw [hw, allocs_size, hos]; rfl
  have hb : Below w.heap.size w w7 := by rw [hw]; exact allocs_below os w
  have hat : ∀ i o, os[i]? = some o → w7.heap[w.heap.size + i]? = some o := by rw [hw]; exact allocs_at os w
  subst hos
  have h1 := hat 1 _ rfl
  have h2 := hat 2 _ rfl
  have h3 := hat 3 _ rfl
  have h4 := hat 4 _ rfl
  have h5 := hat 5 _ rfl
  have HB := hidP hb
  have H1 := hidP h1
  have H2 := hidP h2
  have H3 := hidP h3
  have HIt := hidP (HP.out w7 (w.heap.size + 4) (w.heap.size + 5) hb (of4 h4).1 (of1 h5).1 (by omega) (by omega))
  clear hw7 hw hat hb h1 h2 h3 h4 h5
  gi_wp2
  refine wp_range (gf := 41) (lb := #[.pointer (some ⟨w.heap.size + 4, 0, none⟩), .pointer (some ⟨w.heap.size + 5, 0, none⟩)]) rfl (enters_of Try.func41 (by kernel_rfl) rfl) HIt.out (fun _ => rfl) (fun k h => by omega)
    (fun pre M V => M = lgM w.heap.size ∧ V.heap[w.heap.size + 2]? = some (.cells #[.bool (lgP (lgs pre)).s, .int .i64 (lgP (lgs pre)).H.toInt, .int .i64 (lgP (lgs pre)).L.toInt, .int .i64 (lgP (lgs pre)).b] 27) ∧ V.heap[w.heap.size + 3]? = some (.cells #[.bool (lgs pre).isSome] 4))
    (fun _ _ _ _ => False)
    (fun pre M A B h hk => ?hI) (fun c pre M A B h hk => h.elim) (lgM w.heap.size) (fun k h => by unfold lgM at h; omega) (fun k h hm => by unfold lgM at hm; omega) ⟨rfl, H2.out, H3.out⟩ ?round ?done ?stop
  case hI =>
    obtain ⟨rfl, h2, h3⟩ := h
    exact ⟨rfl, hk.at (Or.inl rfl) h2, hk.at (Or.inr rfl) h3⟩
  case stop =>
    intro D c pre M1 V _ _ _ _ h
    exact h.elim
  case done =>
    rintro D M1 V hD hDl hMD ⟨rfl, h2, h3⟩ hg hK
    obtain ⟨q, hq⟩ : ∃ q, q = lgP (lgs ys) := ⟨_, rfl⟩
    obtain ⟨bo, hbo⟩ : ∃ bo, bo = (lgs ys).isSome := ⟨_, rfl⟩
    rw [← hq] at h2
    rw [← hbo] at h3
    have HQ := hidP hq
    have HBo := hidP hbo
    have h1 : V.heap[w.heap.size + 1]? = some (.cells #[.bool false, .int .i64 0, .int .i64 0, .int .i64 0] 27) := (hg.kept.block (w.heap.size + 1) (by omega) (fun h => by unfold lgM at h; omega)).trans H1.out
    obtain ⟨⟨v0, v1, v2, v3⟩, f0, f1, f2, f3⟩ := of4 h1
    obtain ⟨⟨y0, y1, y2, y3⟩, _⟩ := of4 h2
    have y4 := (of1 h3).1
    have lz1 := lt_heap h1
    have lz2 := lt_heap h2
    have lz3 := lt_heap h3
    have hbV : Below w.heap.size w V := bel_v HB.out hg (fun k h => by unfold lgM at h; omega)
    have HS4 : Hid (∀ V' : World, V'.heap = V.heap → ((((V'.setCell ⟨w.heap.size + 1, 0, none⟩ (.bool q.s)).setCell ⟨w.heap.size + 1, 1, none⟩ (.int .i64 q.H.toInt)).setCell ⟨w.heap.size + 1, 2, none⟩ (.int .i64 q.L.toInt)).setCell ⟨w.heap.size + 1, 3, none⟩ (.int .i64 q.b)).heap[w.heap.size + 1]? = some (.cells #[.bool q.s, .int .i64 q.H.toInt, .int .i64 q.L.toInt, .int .i64 q.b] 27)) := hidP fun V' e => set4 (by rw [e]; exact h1)
    have HK9 : Hid (∀ V' : World, V'.heap = V.heap → ((((V'.setCell ⟨w.heap.size + 1, 0, none⟩ (.bool q.s)).setCell ⟨w.heap.size + 1, 1, none⟩ (.int .i64 q.H.toInt)).setCell ⟨w.heap.size + 1, 2, none⟩ (.int .i64 q.L.toInt)).setCell ⟨w.heap.size + 1, 3, none⟩ (.int .i64 q.b)).heap[D]? = some (.deferred (some []))) := hidP fun V' e => setO (show D ≠ w.heap.size + 1 by omega) (setO (show D ≠ w.heap.size + 1 by omega) (setO (show D ≠ w.heap.size + 1 by omega) (setO (show D ≠ w.heap.size + 1 by omega) (by rw [e]; exact hK))))
    have HBV := hidP hbV
    clear h1 h2 h3 hg hK hq hbo hbV
    gi_wp2
    refine wpIn_np (wpIn_wide.2 ?_)
    refine wp_region_held_drew (S := (fun X => X.cell? ⟨w.heap.size + 2, 0, none⟩ = some (.bool q.s) ∧ X.cell? ⟨w.heap.size + 2, 1, none⟩ = some (.int .i64 q.H.toInt) ∧ X.cell? ⟨w.heap.size + 2, 2, none⟩ = some (.int .i64 q.L.toInt) ∧ X.cell? ⟨w.heap.size + 2, 3, none⟩ = some (.int .i64 q.b) ∧ X.cell? ⟨w.heap.size + 3, 0, none⟩ = some (.bool bo))) (by kernel_rfl) ?_ (fun hHeld => ?_)
    · exact ⟨y0, y1, y2, y3, y4⟩
    refine tk 0 24 rfl ?_; simp only [pa]
    refine tk 1 25 rfl ?_; simp only [pa]
    refine wpAnyH_ready (rs := [2]) (by kernel_rfl) (by simp) ?_
    refine AllReadyH.cons rfl (fun K hK => ?_) AllReadyH.nil
    go_simp
    refine hK.out _ _ ?_ (fun hHeld => ?_)
    · try dsimp only
      first | (simp [go_sem, y0, y1, y2, y3, y4]; done) | trace_state
    clear hK K
    refine tk 3 5 rfl ?_; simp only [pa]
    refine wpAnyH_done (by kernel_rfl) ?_ _
    gi_wp2
    refine ⟨by simp, .inl ⟨_, _, rfl, run_takeDeferred (HK9.out V rfl), ?_⟩⟩
    obtain ⟨⟨g0, g1, g2, g3⟩, _⟩ := of4 ((World.putObj_heap_other (w := ((((V.setCell ⟨w.heap.size + 1, 0, none⟩ (.bool q.s)).setCell ⟨w.heap.size + 1, 1, none⟩ (.int .i64 q.H.toInt)).setCell ⟨w.heap.size + 1, 2, none⟩ (.int .i64 q.L.toInt)).setCell ⟨w.heap.size + 1, 3, none⟩ (.int .i64 q.b)).drew) (o := .deferred none) (show w.heap.size + 1 ≠ D by omega)).trans (HS4.out V rfl))
    refine ⟨.tuple #[.agg #[.bool q.s, .int .i64 q.H.toInt, .int .i64 q.L.toInt, .int .i64 q.b], .bool bo], by simp [results, Try.results10, go_sem, g0, g1, g2, g3], by rw [HQ.out, HBo.out], ?_⟩
    exact ((((HBV.out.setCell (p := ⟨w.heap.size + 1, 0, none⟩) (Nat.le_succ _) _).setCell (p := ⟨w.heap.size + 1, 1, none⟩) (Nat.le_succ _) _).setCell (p := ⟨w.heap.size + 1, 2, none⟩) (Nat.le_succ _) _).setCell (p := ⟨w.heap.size + 1, 3, none⟩) (Nat.le_succ _) _).drew.trans (belowK_b (w := w) (Nat.le_refl _) _ D _ _ (by omega) (HK9.out V rfl) rfl rfl)
  case round =>
    intro l' pre x M1 V _ hf hl' _ hlt hpre
    unfold encP
    refine rnd_of ?_
    intro K' HK'
    have HF0 := hidP hf
    clear hf hl' hpre
    gi_wp2
    refine HK'.out _ _ ⟨(Below.refl _ V).alloc (Nat.le_refl _) _, ?_⟩
    clear HK'
    rintro V2 hk2 hs2 ⟨rfl, h2, h3⟩
    obtain ⟨x0, x1, x2, x3⟩ := box_cells V 27 x.pre
    have lV : V.heap.size < (V.alloc (.cells #[.bool x.s, .int .i64 x.H.toInt, .int .i64 x.L.toInt, .int .i64 ((wd x.s : Int) - x.n)] 27)).heap.size := by simp
    have nV : V.heap.size ≠ l' := by omega
    have y0 := (hk2.cell (p := ⟨V.heap.size, 0, none⟩) lV nV).trans x0
    have y1 := (hk2.cell (p := ⟨V.heap.size, 1, none⟩) lV nV).trans x1
    have y2 := (hk2.cell (p := ⟨V.heap.size, 2, none⟩) lV nV).trans x2
    have y3 := (hk2.cell (p := ⟨V.heap.size, 3, none⟩) lV nV).trans x3
    have hVs : V.heap.size < V2.heap.size := by rw [hs2]; exact lV
    dsimp only [Sp.pre] at y0 y1 y2 y3
    have fit2 : ∀ k, lgM w.heap.size k → k < V2.heap.size := fun k h => by have := HF0.out k h; omega
    have HG : Hid (Grw (lgM w.heap.size) (lgM w.heap.size) V2 (((((V2.setCell ⟨w.heap.size + 2, 0, none⟩ (.bool x.s)).setCell ⟨w.heap.size + 2, 1, none⟩ (.int .i64 x.H.toInt)).setCell ⟨w.heap.size + 2, 2, none⟩ (.int .i64 x.L.toInt)).setCell ⟨w.heap.size + 2, 3, none⟩ (.int .i64 ((wd x.s : Int) - x.n))).setCell ⟨w.heap.size + 3, 0, none⟩ (.bool true))) :=
      hidP (((((Grw.refl fit2).set _ _ (Or.inl rfl)).set _ _ (Or.inl rfl)).set _ _ (Or.inl rfl)).set _ _ (Or.inl rfl) |>.set _ _ (Or.inr rfl))
    have HG0 := hidP (Grw.refl fit2)
    have E2 := hidP (setO (k := w.heap.size + 2) (p := ⟨w.heap.size + 3, 0, none⟩) (u := .bool true) (show w.heap.size + 2 ≠ w.heap.size + 3 by omega) (set4 (a' := .bool x.s) (b' := .int .i64 x.H.toInt) (c' := .int .i64 x.L.toInt) (d' := .int .i64 ((wd x.s : Int) - x.n)) h2))
    have E3 := hidP (set1 (u := .bool true) (setO (p := ⟨w.heap.size + 2, 3, none⟩) (u := .int .i64 ((wd x.s : Int) - x.n)) (show w.heap.size + 3 ≠ w.heap.size + 2 by omega) (setO (p := ⟨w.heap.size + 2, 2, none⟩) (u := .int .i64 x.L.toInt) (show w.heap.size + 3 ≠ w.heap.size + 2 by omega) (setO (p := ⟨w.heap.size + 2, 1, none⟩) (u := .int .i64 x.H.toInt) (show w.heap.size + 3 ≠ w.heap.size + 2 by omega) (setO (p := ⟨w.heap.size + 2, 0, none⟩) (u := .bool x.s) (show w.heap.size + 3 ≠ w.heap.size + 2 by omega) h3)))))
    have EN := hidP (lgs_snoc pre x)
    have H2 := hidP h2
    have H3 := hidP h3
    have lz2 := lt_heap h2
    have lz3 := lt_heap h3
    clear hk2 hs2 h2 h3 x0 x1 x2 x3 lV nV fit2
    generalize lgs pre = o at *
    cases o with
    | none =>
      obtain ⟨⟨v0, v1, v2, v3⟩, f0, f1, f2, f3⟩ := of4 H2.out
      obtain ⟨v4, f4⟩ := of1 H3.out
      dsimp only [Option.isSome, lgP] at v0 v1 v2 v3 v4
      have HF : Hid (∃ M', (M' = lgM w.heap.size ∧ (((((V2.setCell ⟨w.heap.size + 2, 0, none⟩ (.bool x.s)).setCell ⟨w.heap.size + 2, 1, none⟩ (.int .i64 x.H.toInt)).setCell ⟨w.heap.size + 2, 2, none⟩ (.int .i64 x.L.toInt)).setCell ⟨w.heap.size + 2, 3, none⟩ (.int .i64 ((wd x.s : Int) - x.n))).setCell ⟨w.heap.size + 3, 0, none⟩ (.bool true)).heap[w.heap.size + 2]? = some (.cells #[.bool (lgP (lgs (pre ++ [x]))).s, .int .i64 (lgP (lgs (pre ++ [x]))).H.toInt, .int .i64 (lgP (lgs (pre ++ [x]))).L.toInt, .int .i64 (lgP (lgs (pre ++ [x]))).b] 27) ∧ (((((V2.setCell ⟨w.heap.size + 2, 0, none⟩ (.bool x.s)).setCell ⟨w.heap.size + 2, 1, none⟩ (.int .i64 x.H.toInt)).setCell ⟨w.heap.size + 2, 2, none⟩ (.int .i64 x.L.toInt)).setCell ⟨w.heap.size + 2, 3, none⟩ (.int .i64 ((wd x.s : Int) - x.n))).setCell ⟨w.heap.size + 3, 0, none⟩ (.bool true)).heap[w.heap.size + 3]? = some (.cells #[.bool (lgs (pre ++ [x])).isSome] 4)) ∧ Grw (lgM w.heap.size) M' V2 (((((V2.setCell ⟨w.heap.size + 2, 0, none⟩ (.bool x.s)).setCell ⟨w.heap.size + 2, 1, none⟩ (.int .i64 x.H.toInt)).setCell ⟨w.heap.size + 2, 2, none⟩ (.int .i64 x.L.toInt)).setCell ⟨w.heap.size + 2, 3, none⟩ (.int .i64 ((wd x.s : Int) - x.n))).setCell ⟨w.heap.size + 3, 0, none⟩ (.bool true))) :=
        hidP ⟨lgM w.heap.size, ⟨rfl, by rw [EN.out]; exact E2.out, by rw [EN.out]; exact E3.out⟩, HG.out⟩
      clear E2 E3 HG
      gi_wp2
      exact HF.out
    | some y =>
      obtain ⟨⟨v0, v1, v2, v3⟩, f0, f1, f2, f3⟩ := of4 H2.out
      obtain ⟨v4, f4⟩ := of1 H3.out
      dsimp only [Option.isSome, lgP, Sp.pre] at v0 v1 v2 v3 v4
      cases hr : decide (((wd x.s : Int) - x.n) < ((wd y.s : Int) - y.n))
      · have EN2 : lgs (pre ++ [x]) = some y := by rw [EN.out]; show (if _ then _ else _) = _; rw [if_neg (of_decide_eq_false hr)]
        have HF : Hid (∃ M', (M' = lgM w.heap.size ∧ V2.heap[w.heap.size + 2]? = some (.cells #[.bool (lgP (lgs (pre ++ [x]))).s, .int .i64 (lgP (lgs (pre ++ [x]))).H.toInt, .int .i64 (lgP (lgs (pre ++ [x]))).L.toInt, .int .i64 (lgP (lgs (pre ++ [x]))).b] 27) ∧ V2.heap[w.heap.size + 3]? = some (.cells #[.bool (lgs (pre ++ [x])).isSome] 4)) ∧ Grw (lgM w.heap.size) M' V2 V2) :=
          hidP ⟨lgM w.heap.size, ⟨rfl, by rw [EN2]; exact H2.out, by rw [EN2]; exact H3.out⟩, HG0.out⟩
        clear E2 E3 HG EN2
        gi_wp2
        exact HF.out
      · have EN2 : lgs (pre ++ [x]) = some x := by rw [EN.out]; show (if _ then _ else _) = _; rw [if_pos (of_decide_eq_true hr)]
        have HF : Hid (∃ M', (M' = lgM w.heap.size ∧ (((((V2.setCell ⟨w.heap.size + 2, 0, none⟩ (.bool x.s)).setCell ⟨w.heap.size + 2, 1, none⟩ (.int .i64 x.H.toInt)).setCell ⟨w.heap.size + 2, 2, none⟩ (.int .i64 x.L.toInt)).setCell ⟨w.heap.size + 2, 3, none⟩ (.int .i64 ((wd x.s : Int) - x.n))).setCell ⟨w.heap.size + 3, 0, none⟩ (.bool true)).heap[w.heap.size + 2]? = some (.cells #[.bool (lgP (lgs (pre ++ [x]))).s, .int .i64 (lgP (lgs (pre ++ [x]))).H.toInt, .int .i64 (lgP (lgs (pre ++ [x]))).L.toInt, .int .i64 (lgP (lgs (pre ++ [x]))).b] 27) ∧ (((((V2.setCell ⟨w.heap.size + 2, 0, none⟩ (.bool x.s)).setCell ⟨w.heap.size + 2, 1, none⟩ (.int .i64 x.H.toInt)).setCell ⟨w.heap.size + 2, 2, none⟩ (.int .i64 x.L.toInt)).setCell ⟨w.heap.size + 2, 3, none⟩ (.int .i64 ((wd x.s : Int) - x.n))).setCell ⟨w.heap.size + 3, 0, none⟩ (.bool true)).heap[w.heap.size + 3]? = some (.cells #[.bool (lgs (pre ++ [x])).isSome] 4)) ∧ Grw (lgM w.heap.size) M' V2 (((((V2.setCell ⟨w.heap.size + 2, 0, none⟩ (.bool x.s)).setCell ⟨w.heap.size + 2, 1, none⟩ (.int .i64 x.H.toInt)).setCell ⟨w.heap.size + 2, 2, none⟩ (.int .i64 x.L.toInt)).setCell ⟨w.heap.size + 2, 3, none⟩ (.int .i64 ((wd x.s : Int) - x.n))).setCell ⟨w.heap.size + 3, 0, none⟩ (.bool true))) :=
          hidP ⟨lgM w.heap.size, ⟨rfl, by rw [EN2]; exact E2.out, by rw [EN2]; exact E3.out⟩, HG.out⟩
        clear E2 E3 HG EN2
        gi_wp2
        exact HF.out

end Go.Proofs.Ytnlnigelecmobaa
namespace Go.Proofs.Ytnlnigelecmobaa
open Go.RowKit

set_option maxHeartbeats 1000000 in
theorem iOverlaps_any (s : Bool) (H L : BitVec 64) (b : Int) (s' : Bool) (H' L' : BitVec 64) (b' : Int) (w : World) :
    Calls Try.prog 9 #[.agg #[.bool s, .int .i64 H.toInt, .int .i64 L.toInt, .int .i64 b], .agg #[.bool s', .int .i64 H'.toInt, .int .i64 L'.toInt, .int .i64 b']] w fun e w' => e = .returned (.bool (winB s H L b s' H' L' b' || winB s' H' L' b' s H L b)) ∧ Below w.heap.size w w' := by
  cases hp : pokB s H L b
  · rw [win_no1 hp, win_no2 hp, Bool.or_false]
    have HS : Hid (∀ w, _) := spanOf_no s H L b hp
    clear hp
    cases hq : pokB s' H' L' b'
    · have HT : Hid (∀ w, _) := spanOf_no s' H' L' b' hq
      clear hq
      go_enter Try.func9, Try.ntmps9
      go_wp2_with fail
      refine (HS.out _).mono ?_
      rintro e w1 ⟨rfl, hb1⟩
      have hz1 := hb1.size
      try simp at hz1
      have f10 : w.heap.size < w1.heap.size := by omega
      have f11 : w.heap.size + 1 < w1.heap.size := by omega
      refine olds_k (w.heap.size + 2) hb1 ?_ ?_
      · first | omega | (simp; omega) | (simp; done)
      intro hc1 hf1
      go_wp2_with fail
      refine (HT.out _).mono ?_
      rintro e w2 ⟨rfl, hb2⟩
      have hz2 := hb2.size
      try simp at hz2
      have f2x0 : w.heap.size < w2.heap.size := by omega
      have f2x1 : w.heap.size + 1 < w2.heap.size := by omega
      have f2x2 : w1.heap.size < w2.heap.size := by omega
      have f2x3 : w.heap.size + 1 < w1.heap.size + 1 := by omega
      refine olds_k (w1.heap.size + 1) hb2 ?_ ?_
      · first | omega | (simp; omega) | (simp; done)
      intro hc2 hf2
      go_wp2_with fail
      go_ret
      refine ⟨rfl, ?_⟩
      repeat (first | with_reducible exact Below.refl _ _ | (with_reducible refine Below.drew ?_) | (with_reducible refine Below.alloc ?_ ?_ _; rotate_left; (focus (first | omega | (simp; omega) | (simp; done)))) | (with_reducible refine Below.setCell ?_ ?_ _; rotate_left; (focus (first | omega | (simp; omega) | (simp; done)))) | (with_reducible refine Below.trans ?_ (hb2.mono ?_); rotate_left; (focus (first | omega | (simp; omega) | (simp; done)))) | (with_reducible refine Below.trans ?_ (hb1.mono ?_); rotate_left; (focus (first | omega | (simp; omega) | (simp; done)))))
    · obtain ⟨m, hm⟩ : ∃ m : Nat, (m : Int) = (wd s' : Int) - b' := ⟨((wd s' : Int) - b').toNat, by have := (pokB_parts hq).2.1; omega⟩
      have HT : Hid (∀ w, _) := spanOf_yes s' H' L' b' m hm hq
      clear hq hm
      go_enter Try.func9, Try.ntmps9
      go_wp2_with fail
      refine (HS.out _).mono ?_
      rintro e w1 ⟨rfl, hb1⟩
      have hz1 := hb1.size
      try simp at hz1
      have f10 : w.heap.size < w1.heap.size := by omega
      have f11 : w.heap.size + 1 < w1.heap.size := by omega
      refine olds_k (w.heap.size + 2) hb1 ?_ ?_
      · first | omega | (simp; omega) | (simp; done)
      intro hc1 hf1
      go_wp2_with fail
      refine (HT.out _).mono ?_
      rintro e w2 ⟨rfl, hb2⟩
      have hz2 := hb2.size
      try simp at hz2
      have f2x0 : w.heap.size < w2.heap.size := by omega
      have f2x1 : w.heap.size + 1 < w2.heap.size := by omega
      have f2x2 : w1.heap.size < w2.heap.size := by omega
      have f2x3 : w.heap.size + 1 < w1.heap.size + 1 := by omega
      refine olds_k (w1.heap.size + 1) hb2 ?_ ?_
      · first | omega | (simp; omega) | (simp; done)
      intro hc2 hf2
      go_wp2_with fail
      go_ret
      refine ⟨rfl, ?_⟩
      repeat (first | with_reducible exact Below.refl _ _ | (with_reducible refine Below.drew ?_) | (with_reducible refine Below.alloc ?_ ?_ _; rotate_left; (focus (first | omega | (simp; omega) | (simp; done)))) | (with_reducible refine Below.setCell ?_ ?_ _; rotate_left; (focus (first | omega | (simp; omega) | (simp; done)))) | (with_reducible refine Below.trans ?_ (hb2.mono ?_); rotate_left; (focus (first | omega | (simp; omega) | (simp; done)))) | (with_reducible refine Below.trans ?_ (hb1.mono ?_); rotate_left; (focus (first | omega | (simp; omega) | (simp; done)))))
  · obtain ⟨n, hn⟩ : ∃ n : Nat, (n : Int) = (wd s : Int) - b := ⟨((wd s : Int) - b).toNat, by have := (pokB_parts hp).2.1; omega⟩
    have HS : Hid (∀ w, _) := spanOf_yes s H L b n hn hp
    cases hq : pokB s' H' L' b'
    · rw [win_no2 hq, win_no1 hq, Bool.or_false]
      have HT : Hid (∀ w, _) := spanOf_no s' H' L' b' hq
      clear hq hp hn
      go_enter Try.func9, Try.ntmps9
      go_wp2_with fail
      refine (HS.out _).mono ?_
      rintro e w1 ⟨rfl, hb1⟩
      have hz1 := hb1.size
      try simp at hz1
      have f10 : w.heap.size < w1.heap.size := by omega
      have f11 : w.heap.size + 1 < w1.heap.size := by omega
      refine olds_k (w.heap.size + 2) hb1 ?_ ?_
      · first | omega | (simp; omega) | (simp; done)
      intro hc1 hf1
      go_wp2_with fail
      refine (HT.out _).mono ?_
      rintro e w2 ⟨rfl, hb2⟩
      have hz2 := hb2.size
      try simp at hz2
      have f2x0 : w.heap.size < w2.heap.size := by omega
      have f2x1 : w.heap.size + 1 < w2.heap.size := by omega
      have f2x2 : w1.heap.size < w2.heap.size := by omega
      have f2x3 : w.heap.size + 1 < w1.heap.size + 1 := by omega
      refine olds_k (w1.heap.size + 1) hb2 ?_ ?_
      · first | omega | (simp; omega) | (simp; done)
      intro hc2 hf2
      go_wp2_with fail
      go_ret
      refine ⟨rfl, ?_⟩
      repeat (first | with_reducible exact Below.refl _ _ | (with_reducible refine Below.drew ?_) | (with_reducible refine Below.alloc ?_ ?_ _; rotate_left; (focus (first | omega | (simp; omega) | (simp; done)))) | (with_reducible refine Below.setCell ?_ ?_ _; rotate_left; (focus (first | omega | (simp; omega) | (simp; done)))) | (with_reducible refine Below.trans ?_ (hb2.mono ?_); rotate_left; (focus (first | omega | (simp; omega) | (simp; done)))) | (with_reducible refine Below.trans ?_ (hb1.mono ?_); rotate_left; (focus (first | omega | (simp; omega) | (simp; done)))))
    · obtain ⟨m, hm⟩ : ∃ m : Nat, (m : Int) = (wd s' : Int) - b' := ⟨((wd s' : Int) - b').toNat, by have := (pokB_parts hq).2.1; omega⟩
      rw [win_with hp hq hn hm, win_with hq hp hm hn]
      have hn1 : n ≤ 128 := by have := wd_le' s; have := (pokB_parts hp).2.1; omega
      have hm1 : m ≤ 128 := by have := wd_le' s'; have := (pokB_parts hq).2.1; omega
      have HT : Hid (∀ w, _) := spanOf_yes s' H' L' b' m hm hq
      have HW : Hid (∀ w, _) := overlaps_any s H L n hn1 s' H' L' m hm1
      generalize (withB s H L n s' H' L' m || withB s' H' L' m s H L n) = B1 at HW ⊢
      clear hq hm hp hn
      go_enter Try.func9, Try.ntmps9
      go_wp2_with fail
      refine (HS.out _).mono ?_
      rintro e w1 ⟨rfl, hb1⟩
      have hz1 := hb1.size
      try simp at hz1
      have f10 : w.heap.size < w1.heap.size := by omega
      have f11 : w.heap.size + 1 < w1.heap.size := by omega
      refine olds_k (w.heap.size + 2) hb1 ?_ ?_
      · first | omega | (simp; omega) | (simp; done)
      intro hc1 hf1
      go_wp2_with fail
      refine (HT.out _).mono ?_
      rintro e w2 ⟨rfl, hb2⟩
      have hz2 := hb2.size
      try simp at hz2
      have f2x0 : w.heap.size < w2.heap.size := by omega
      have f2x1 : w.heap.size + 1 < w2.heap.size := by omega
      have f2x2 : w1.heap.size < w2.heap.size := by omega
      have f2x3 : w.heap.size + 1 < w1.heap.size + 1 := by omega
      refine olds_k (w1.heap.size + 1) hb2 ?_ ?_
      · first | omega | (simp; omega) | (simp; done)
      intro hc2 hf2
      go_wp2_with fail
      refine (HW.out _).mono ?_
      rintro e w3 ⟨rfl, hb3⟩
      have hz3 := hb3.size
      try simp at hz3
      have f30 : w.heap.size < w3.heap.size := by omega
      have f31 : w.heap.size + 1 < w3.heap.size := by omega
      refine olds_k (w.heap.size + 2) hb3 ?_ ?_
      · first | omega | (simp; omega) | (simp; done)
      intro hc3 hf3
      go_wp2_with fail
      go_ret
      refine ⟨rfl, ?_⟩
      repeat (first | with_reducible exact Below.refl _ _ | (with_reducible refine Below.drew ?_) | (with_reducible refine Below.alloc ?_ ?_ _; rotate_left; (focus (first | omega | (simp; omega) | (simp; done)))) | (with_reducible refine Below.setCell ?_ ?_ _; rotate_left; (focus (first | omega | (simp; omega) | (simp; done)))) | (with_reducible refine Below.trans ?_ (hb3.mono ?_); rotate_left; (focus (first | omega | (simp; omega) | (simp; done)))) | (with_reducible refine Below.trans ?_ (hb2.mono ?_); rotate_left; (focus (first | omega | (simp; omega) | (simp; done)))) | (with_reducible refine Below.trans ?_ (hb1.mono ?_); rotate_left; (focus (first | omega | (simp; omega) | (simp; done)))))

end Go.Proofs.Ytnlnigelecmobaa
namespace Go.Proofs.Ytnlnigelecmobaa
open Go.RowKit

theorem pre_listF : ∀ ps : List Pf, ps.all Pf.pok = true → ∃ xs : List Sp, (∀ t ∈ xs, t.ok) ∧ xs.map Sp.pre = ps
  | [], _ => ⟨[], (fun _ h => by cases h), rfl⟩
  | p :: t, h => by
      rw [List.all_cons, Bool.and_eq_true] at h
      obtain ⟨x, hx, rfl⟩ := Sp.of_pok (p := p) h.1
      obtain ⟨xs, hxs, rfl⟩ := pre_listF t h.2
      refine ⟨x :: xs, fun u hu => ?_, rfl⟩
      rcases List.mem_cons.1 hu with rfl | hu
      · exact hx
      · exact hxs u hu
/-- The program's order of two right addresses. -/
theorem iCmp_keys (s : Bool) (H L : BitVec 64) (s' : Bool) (H' L' : BitVec 64) (h : okB s H.toInt L.toInt = true) (h' : okB s' H'.toInt L'.toInt = true) (w : World) :
    Calls Try.prog 23 #[.agg #[.bool s, .int .i64 H.toInt, .int .i64 L.toInt], .agg #[.bool s', .int .i64 H'.toInt, .int .i64 L'.toInt]] w fun e w' => e = .returned (.int .i64 (cmpW (keyN s H L : Int) (keyN s' H' L' : Int))) ∧ Below w.heap.size w w' := by
  have hz : Nrm s H.toInt L.toInt s H.toInt L.toInt := Or.inl ⟨h, rfl, rfl, rfl⟩
  have hz' : Nrm s' H'.toInt L'.toInt s' H'.toInt L'.toInt := Or.inl ⟨h', rfl, rfl, rfl⟩
  obtain ⟨r0, r1, r2, hr, rt, rf, r2e⟩ := Rank_ex s H.toInt L.toInt
  obtain ⟨q0, q1, q2, hr', qt, qf, q2e⟩ := Rank_ex s' H'.toInt L'.toInt
  have hi := iCmp_ne s H.toInt L.toInt s' H'.toInt L'.toInt s H.toInt L.toInt s' H'.toInt L'.toInt r0 r1 r2 q0 q1 q2 hz hr hz' hr'
  rw [wrapU] at rt r2e qt q2e
  have hk := cmp_keys s H L s' H' L' h h' r0 r1 r2 q0 q1 q2 ⟨rt, rf, r2e⟩ ⟨qt, qf, q2e⟩
  rw [hk] at hi
  exact hi w
theorem iCmp_before (s : Bool) (H L H' L' : BitVec 64) (b b' : Int) (h : okB s H.toInt L.toInt = true) (h' : okB s H'.toInt L'.toInt = true) (hlt : adrN H L < adrN H' L') (w : World) :
    Calls Try.prog 12 #[.agg #[.bool s, .int .i64 H.toInt, .int .i64 L.toInt, .int .i64 b], .agg #[.bool s, .int .i64 H'.toInt, .int .i64 L'.toInt, .int .i64 b']] w fun e w' => e = .returned (.int .i64 (-1)) ∧ Below w.heap.size w w' := by
  have hk : cmpW (keyN s H L : Int) (keyN s H' L' : Int) = -1 := by
    unfold cmpW keyN
    rw [if_pos (by omega)]
  have hq := iCmpPrefix_any s H.toInt L.toInt b s H'.toInt L'.toInt b' (-1) (fun w => by have := iCmp_keys s H L s H' L' h h' w; rw [hk] at this; exact this) w
  have ho : orI (-1) (cmpW b b') = -1 := by simp [orI]
  rw [ho] at hq
  exact hq
/-- How many of so many free bits there are, up to 2^62. -/
theorem cnt_sum (d : Bool) (bits : Int) (s : Nat) (hs : (s : Int) = (wd d : Int) - bits) : ∀ (zs : List Sp) (c : Nat), c ≤ 4611686018427387904 → (∀ z ∈ zs, z.s = d ∧ s ≤ z.n) → zs.foldl (cnt1 bits) (c : Int) = ((min (c + sumR s zs) 4611686018427387904 : Nat) : Int)
  | [], c, hc, _ => by
      show (c : Int) = _
      simp only [sumR]; omega
  | z :: r, c, hc, h => by
      obtain ⟨h1, h2⟩ := h z (List.mem_cons_self ..)
      have e1 : bits - ((wd z.s : Int) - z.n) = ((z.n - s : Nat) : Int) := by rw [h1]; omega
      have e2 : fitN ((z.n - s : Nat) : Int) = ((2 ^ (min (z.n - s) 62) : Nat) : Int) := by
        unfold fitN
        have : (min ((z.n - s : Nat) : Int) 62).toNat = min (z.n - s) 62 := by omega
        rw [this]; norm_cast
      have e3 : cnt1 bits (c : Int) z = ((min (c + 2 ^ (z.n - s)) 4611686018427387904 : Nat) : Int) := by
        unfold cnt1
        rw [e1, e2]
        rcases Nat.lt_or_ge (z.n - s) 62 with hl | hl
        · rw [Nat.min_eq_left (by omega)]
          omega
        · rw [Nat.min_eq_right hl]
          have : (4611686018427387904 : Nat) = 2 ^ 62 := by decide
          have h5 : 2 ^ 62 ≤ 2 ^ (z.n - s) := Nat.pow_le_pow_right (by omega) hl
          omega
      rw [List.foldl_cons, e3, cnt_sum d bits s hs r _ (by omega) (fun y hy => h y (List.mem_cons_of_mem _ hy))]
      simp only [sumR, h2, if_true]
      omega
theorem sumR_filter (s : Nat) : ∀ zs : List Sp, sumR s (zs.filter (rmB s)) = sumR s zs
  | [] => rfl
  | z :: r => by
      by_cases h : s ≤ z.n
      · rw [List.filter_cons_of_pos (by unfold rmB; exact decide_eq_true h)]
        simp only [sumR, sumR_filter s r]
      · rw [List.filter_cons_of_neg (by unfold rmB; simpa using h)]
        simp only [sumR, sumR_filter s r, h, if_false]; omega
theorem room_rm {d : Bool} {bits : Int} {s : Nat} (hs : (s : Int) = (wd d : Int) - bits) (zs : List Sp) (h : ∀ z ∈ zs, z.s = d) : zs.filter (roomP bits) = zs.filter (rmB s) := by
  apply List.filter_congr
  intro z hz
  unfold roomP rmB
  rw [h z hz]
  exact decide_eq_decide.mpr (by omega)
theorem lgs_le : ∀ (ys : List Sp) (o : Option Sp), (∀ y, o = some y → ∃ m, ys.foldl lgStep o = some m ∧ (wd m.s : Int) - m.n ≤ (wd y.s : Int) - y.n) ∧ (∀ y ∈ ys, ∃ m, ys.foldl lgStep o = some m ∧ (wd m.s : Int) - m.n ≤ (wd y.s : Int) - y.n)
  | [], o => ⟨fun y h => ⟨y, h, Int.le_refl _⟩, fun y h => by cases h⟩
  | x :: r, o => by
      have hs : ∃ y', lgStep o x = some y' ∧ (wd y'.s : Int) - y'.n ≤ (wd x.s : Int) - x.n ∧ ∀ y, o = some y → (wd y'.s : Int) - y'.n ≤ (wd y.s : Int) - y.n := by
        cases o with
        | none => exact ⟨x, rfl, Int.le_refl _, fun y h => by cases h⟩
        | some y =>
          unfold lgStep
          simp only
          split
          · exact ⟨x, rfl, Int.le_refl _, fun y' h => by injection h with h; subst h; omega⟩
          · exact ⟨y, rfl, by omega, fun y' h => by injection h with h; subst h; exact Int.le_refl _⟩
      obtain ⟨y', e, l1, l2⟩ := hs
      have ih := lgs_le r (lgStep o x)
      obtain ⟨m, hm, hle⟩ := ih.1 y' e
      refine ⟨fun y h => ⟨m, hm, by have := l2 y h; omega⟩, fun y hy => ?_⟩
      rcases List.mem_cons.1 hy with rfl | hy
      · exact ⟨m, hm, by omega⟩
      · exact ih.2 y hy
def PG (p : Pf) : Value := .agg #[.bool p.s, .int .i64 p.H.toInt, .int .i64 p.L.toInt, .int .i64 p.b]
def FFc (pool : Pf) (ps : List Pf) (bits : Int) (zs : List Sp) : Prop := ∀ (a : Option Addr) (cap : Nat) (w : World), Row w a ps → Calls Try.prog 6 #[PG pool, .slice a ps.length cap, .int .i64 bits] w fun e w' => e = .returned (frsV bits zs) ∧ Below w.heap.size w w'
def FSc (pool : Pf) (ps : List Pf) (bits : Int) (zs : List Sp) : Prop := ∀ (a : Option Addr) (cap : Nat) (w : World), Row w a ps → Calls Try.prog 7 #[PG pool, .slice a ps.length cap, .int .i64 bits] w fun e w' => e = .returned (frsV bits zs) ∧ Below w.heap.size w w'
def FCc (pool : Pf) (ps : List Pf) (bits : Int) (n : Int) : Prop := ∀ (a : Option Addr) (cap : Nat) (w : World), Row w a ps → Calls Try.prog 8 #[PG pool, .slice a ps.length cap, .int .i64 bits] w fun e w' => e = .returned (.int .i64 n) ∧ Below w.heap.size w w'
/-- The contracts of a right pool and right prefixes. -/
theorem room_gives (x : Sp) (hx : x.ok) (T : List Sp) (hT : ∀ t ∈ T, t.ok) (hl : T.length ≤ 300) (bits : Int) : FFc x.pre (T.map Sp.pre) bits (partL x.pre.s bits (leftM x.n x T)) ∧ FCc x.pre (T.map Sp.pre) bits (cnt bits (partL x.pre.s bits (leftM x.n x T))) := by
  have hlen : (T.map Sp.pre).length = T.length := List.length_map ..
  have hzs : ∀ z ∈ partL x.pre.s bits (leftM x.n x T), 0 ≤ bits - ((wd z.s : Int) - z.n) ∧ bits - ((wd z.s : Int) - z.n) ≤ 128 := fun z hz => by
    unfold partL at hz
    split at hz
    · cases hz
    · rename_i hb
      obtain ⟨h1, h2⟩ := List.mem_filter.1 hz
      have h3 := left_sub x.n x T hx rfl z h1
      have h4 : (wd z.s : Int) - z.n ≤ bits := of_decide_eq_true h2
      have h5 := hx.2.1
      have h6 := wd_le' x.s
      have e : x.pre.s = x.s := rfl
      rw [e] at hb
      rw [h3.1] at h4 ⊢
      omega
  refine ⟨fun a cap w h => ?_, fun a cap w h => ?_⟩
  · rw [hlen]
    exact iFirst x.pre a T.length cap bits w _ (part_gives x.pre a T.length cap bits w _ (left_yes x hx a cap T hT w h hl))
  · rw [hlen]
    exact iCnt x.pre a T.length cap bits w _ hzs (part_gives x.pre a T.length cap bits w _ (left_yes x hx a cap T hT w h hl))
structure FfY (pool : Pf) (ps : List Pf) (bits : Int) (p : Pf) : Prop where
  hbt : p.b = bits
  ov : ∀ q ∈ ps, (winB p.s p.H p.L p.b q.s q.H q.L q.b || winB q.s q.H q.L q.b p.s p.H p.L p.b) = false
  inp : winB p.s p.H p.L p.b pool.s pool.H pool.L pool.b = true
  hcn : ∃ n m : Int, FCc pool ps bits n ∧ FCc pool (ps ++ [p]) bits m ∧ 0 < n ∧ (n == 4611686018427387904 || m == n - 1) = true ∧ -9223372036854775808 ≤ n - 1 ∧ n ≤ 4611686018427387904
  next : ∃ (zs : List Sp), FFc pool (ps ++ [p]) bits zs ∧ ∀ z r, zs = z :: r → ∀ w : World, Calls Try.prog 12 #[PG p, PG ⟨z.s, z.H, z.L, bits⟩] w fun e w' => e = .returned (.int .i64 (-1)) ∧ Below w.heap.size w w'
  larg : ∃ l : Pf, l.b ≤ bits ∧ ∀ (a : Option Addr) (cap : Nat) (w : World), Row w a ps → Calls Try.prog 10 #[PG pool, .slice a ps.length cap] w fun e w' => e = .returned (.tuple #[PG l, .bool true]) ∧ Below w.heap.size w w'

end Go.Proofs.Ytnlnigelecmobaa
namespace Go.Proofs.Ytnlnigelecmobaa
open Go.RowKit

theorem cnt_is {x : Sp} (hx : x.ok) (T : List Sp) (bits : Int) (s : Nat) (hs : (s : Int) = (wd x.s : Int) - bits) : cnt bits (partL x.pre.s bits (leftM x.n x T)) = ((min (sumR s (leftM x.n x T)) 4611686018427387904 : Nat) : Int) := by
  have e : x.pre.s = x.s := rfl
  have hz : ∀ z ∈ leftM x.n x T, z.s = x.s := fun z hz => (left_sub x.n x T hx rfl z hz).1
  unfold partL
  rw [e, if_neg (by omega), room_rm hs _ hz]
  have h := cnt_sum x.s bits s hs ((leftM x.n x T).filter (rmB s)) 0 (by omega) (fun z h => by
    obtain ⟨h1, h2⟩ := List.mem_filter.1 h
    exact ⟨hz z h1, of_decide_eq_true h2⟩)
  rw [sumR_filter, Nat.zero_add] at h
  exact h
theorem ff_all (pool : Pf) (ps : List Pf) (hl : ps.length ≤ 20) (bits : Int) :
    (FFc pool ps bits [] ∧ FSc pool ps bits [] ∧ FCc pool ps bits 0) ∨ (∃ (z : Sp) (r : List Sp), FFc pool ps bits (z :: r) ∧ FSc pool ps bits (z :: r) ∧ FfY pool ps bits ⟨z.s, z.H, z.L, bits⟩) := by
  cases hr : (pool.pok && rightP ps)
  · left
    have ha : askB pool ps bits = false := by unfold askB; rw [hr, Bool.false_and]
    have hP : ∀ (a : Option Addr) (cap : Nat) (w : World), Row w a ps → PartGives pool a ps.length cap bits w [] := fun a cap w h => by
      have hP := part_gives pool a ps.length cap bits w [] (left_no pool a cap ps w h (by omega) hr)
      rw [show partL pool.s bits [] = [] by unfold partL; split <;> rfl] at hP
      exact hP
    exact ⟨fun a cap w h => iFirst pool a ps.length cap bits w [] (hP a cap w h), fun a cap w h => sFirst_no pool a cap ps bits w h (by omega) ha, fun a cap w h => iCnt pool a ps.length cap bits w [] (fun z hz => by cases hz) (hP a cap w h)⟩
  · rw [Bool.and_eq_true] at hr
    obtain ⟨x, hx, rfl⟩ := Sp.of_pok (p := pool) hr.1
    have hr2 := hr.2
    have h2 := hr.2
    unfold rightP at h2
    rw [Bool.and_eq_true, decide_eq_true_eq] at h2
    obtain ⟨T, hT, rfl⟩ := pre_listF ps h2.1
    have hlT : T.length ≤ 20 := by rw [List.length_map] at hl; exact hl
    have RG := room_gives x hx T hT (by omega) bits
    have hlen : (T.map Sp.pre).length = T.length := List.length_map ..
    cases hz : partL x.pre.s bits (leftM x.n x T) with
    | nil =>
      left
      rw [hz] at RG
      refine ⟨RG.1, fun a cap w h => ?_, RG.2⟩
      cases ha : askB x.pre (T.map Sp.pre) bits
      · exact sFirst_no x.pre a cap (T.map Sp.pre) bits w h (by rw [hlen]; omega) ha
      · have h3 := sFirst_yes x hx a cap T hT bits w h (by omega) ha
        rw [← part_yes ha, hz] at h3
        rw [hlen]
        exact h3
    | cons z r =>
      right
      rw [hz] at RG
      have e : x.pre.s = x.s := rfl
      have hb : bits ≤ (wd x.s : Int) := by
        unfold partL at hz
        split at hz
        · cases hz
        · rename_i h; rw [e] at h; omega
      obtain ⟨s, hs⟩ : ∃ s : Nat, (s : Int) = (wd x.s : Int) - bits := ⟨((wd x.s : Int) - bits).toNat, by omega⟩
      have hzs : ∀ z ∈ leftM x.n x T, z.s = x.s := fun z hz => (left_sub x.n x T hx rfl z hz).1
      have hfil : (leftM x.n x T).filter (rmB s) = z :: r := by
        rw [← room_rm hs _ hzs, ← hz]
        unfold partL
        rw [e, if_neg (by omega)]
      have hm : z ∈ (leftM x.n x T).filter (rmB s) := by rw [hfil]; exact List.mem_cons_self ..
      obtain ⟨hm, hsn⟩ := List.mem_filter.1 hm
      have hsn : s ≤ z.n := of_decide_eq_true hsn
      have zs := hzs z hm
      obtain ⟨zok, zin, zfr⟩ := left_part x.n x T hx rfl z hm
      have pok := subN_ok zok hsn
      have pin := subN_in zok hsn
      have hp : (⟨z.s, z.H, z.L, bits⟩ : Pf) = (subN z s).pre := by
        unfold Sp.pre subN
        simp only [Pf.mk.injEq, true_and]
        rw [zs]; omega
      have pfr : Fr (subN z s) T := fun t ht => by
        constructor
        · rw [Bool.eq_false_iff]; intro h
          rcases wB_nest h pin with h1 | h1
          · rw [(zfr t ht).2] at h1; cases h1
          · rw [(zfr t ht).1] at h1; cases h1
        · rw [Bool.eq_false_iff]; intro h
          have := (zfr t ht).2
          rw [wB_trans h pin] at this; cases this
      have pinx := wB_trans pin zin
      have ask : askB x.pre (T.map Sp.pre) bits = true := by
        cases ha : askB x.pre (T.map Sp.pre) bits
        · rw [part_not hx hr2 ha] at hz; cases hz
        · rfl
      refine ⟨z, r, RG.1, fun a cap w h => ?_, ?_⟩
      · have h3 := sFirst_yes x hx a cap T hT bits w h (by omega) ask
        rw [← part_yes ask, hz] at h3
        rw [hlen]
        exact h3
      · rw [hp]
        have hT2 : ∀ t ∈ T ++ [subN z s], t.ok := fun t ht => by
          rcases List.mem_append.1 ht with h | h
          · exact hT t h
          · have : t = subN z s := by simpa using h
            rw [this]; exact pok
        have RH := room_gives x hx (T ++ [subN z s]) hT2 (by rw [List.length_append]; simp; omega) bits
        have em : (T ++ [subN z s]).map Sp.pre = T.map Sp.pre ++ [(subN z s).pre] := by rw [List.map_append]; rfl
        rw [em] at RH
        have hpb : (subN z s).pre.b = bits := by rw [← hp]
        refine ⟨hpb, fun q hq => ?_, ?_, ?_, ?_, ?_⟩
        · obtain ⟨t, ht, rfl⟩ := List.mem_map.1 hq
          have h1 := win_wB pok (hT t ht)
          have h2' := win_wB (hT t ht) pok
          rw [(pfr t ht).1] at h1
          rw [(pfr t ht).2] at h2'
          show (winB (subN z s).s (subN z s).H (subN z s).L ((wd (subN z s).s : Int) - (subN z s).n) t.s t.H t.L ((wd t.s : Int) - t.n) || winB t.s t.H t.L ((wd t.s : Int) - t.n) (subN z s).s (subN z s).H (subN z s).L ((wd (subN z s).s : Int) - (subN z s).n)) = false
          rw [h1, h2']; rfl
        · exact (win_wB pok hx).trans pinx
        · have h1 := cnt_is hx T bits s hs
          have h2' := cnt_is hx (T ++ [subN z s]) bits s hs
          have h3 := left_one x.n x T (subN z s) hx rfl pok pinx pfr
          have h4 : (subN z s).n = s := rfl
          rw [h4] at h3
          have RG2 := (room_gives x hx T hT (by omega) bits).2
          refine ⟨_, _, RG2, RH.2, ?_, ?_, ?_, ?_⟩
          · rw [h1]; omega
          · rw [h1, h2', Bool.or_eq_true, beq_iff_eq, beq_iff_eq]; omega
          · rw [h1]; omega
          · rw [h1]; omega
        · refine ⟨_, RH.1, fun z' r' hz' w => ?_⟩
          have hzs2 : ∀ y ∈ leftM x.n x (T ++ [subN z s]), y.s = x.s := fun y hy => (left_sub x.n x _ hx rfl y hy).1
          have hm' : z' ∈ (leftM x.n x (T ++ [subN z s])).filter (rmB s) := by
            rw [← room_rm hs _ hzs2]
            have : z' ∈ partL x.pre.s bits (leftM x.n x (T ++ [subN z s])) := by rw [hz']; exact List.mem_cons_self ..
            unfold partL at this
            rw [e, if_neg (by omega)] at this
            exact this
          have hlt := left_next x.n x T s z r hx rfl hfil z' hm'
          have hm2 := (List.mem_filter.1 hm').1
          have z'ok := (left_part x.n x _ hx rfl z' hm2).1
          have es : z'.s = z.s := (hzs2 z' hm2).trans zs.symm
          have hq := iCmp_before z.s z.H z.L z'.H z'.L bits bits zok.1 (by rw [← es]; exact z'ok.1) hlt w
          unfold PG
          rw [← hp, es]
          exact hq
        · obtain ⟨m, hm1, hm2⟩ := (lgs_le (leftM x.n x T) none).2 z hm
          refine ⟨m.pre, ?_, fun a cap w h => ?_⟩
          · show (wd m.s : Int) - m.n ≤ bits
            rw [zs] at hm2; omega
          · have h3 := iLarg x.pre a T.length cap w (leftM x.n x T) (left_yes x hx a cap T hT w h (by omega))
            have hl1 : lgs (leftM x.n x T) = some m := hm1
            rw [hl1] at h3
            rw [hlen]
            exact h3

end Go.Proofs.Ytnlnigelecmobaa
namespace Go.Proofs.Ytnlnigelecmobaa
open Go.ChangeShapes Go.WideShapes Go.ChangeAt Go.RowKit Go.Joins Go.Deep

/-- A box and what lies in it. -/
structure BoF (x : World) (p : Nat) (vs : List Value) : Prop where
  cel : ∀ i v, vs[i]? = some v → x.cell? ⟨p, i, none⟩ = some v
  lt : p < x.heap.size
theorem BoF.later {x y : World} {p : Nat} {vs : List Value} (h : BoF x p vs) (k : Below x.heap.size x y) : BoF y p vs :=
  ⟨fun i v hv => (k.cell (p := ⟨p, i, none⟩) h.lt).trans (h.cel i v hv), Nat.lt_of_lt_of_le h.lt k.size⟩
theorem BoF.new (x : World) (vs : List Value) (t : TypeId) : BoF (x.alloc (.cells vs.toArray t)) x.heap.size vs := ⟨fun i v hv => by simp [go_sem, hv], by simp⟩

set_option maxRecDepth 10000 in
set_option maxHeartbeats 16000000 in
theorem lawFFd (a : Option Addr) (len cap : Nat) (w : World) (hB : Bytes w a len) (hl : len ≤ 1048576) :
    Calls Try.prog 3 #[.slice a len cap] w fun e w' => e = .returned (.bool true) ∧ Below w.heap.size w w' := by
  have HBy := hidP hB
  clear hB
  have hbig : ∀ wx : World, Calls Try.prog 4 #[.slice a len cap] wx fun e w' => e = .returned (.bool false) ∧ wx = w' := fun wx => by
    have d : decide ((1048576 : Int) < (len : Int)) = false := decide_eq_false (by omega)
    go_enter Try.func4, Try.ntmps4
    go_wp2
    go_ret
    exact ⟨rfl, rfl⟩
  have HG := hidP hbig
  clear hbig
  go_enter Try.func3, Try.ntmps3
  go_wp2_with fail
  refine (HG.out _).mono ?_
  rintro e w0 ⟨rfl, rfl⟩
  go_wp2_with fail
  refine (drawFF_any a len cap w HBy.out hl).mono ?_
  rintro e w1 ⟨⟨pl, us, b, n, d, z, hn, hn8, rfl, hO⟩, hb1⟩
  have hcap := (OwnG.caps hO).2.2.2
  have R_1 := hidP hO.row
  have A_1 := hidP hb1
  have HCap := hidP hcap
  subst hn
  have hff := ff_all pl us (by omega) z
  generalize hN : us.length = N at *
  have HN := hidP hN
  clear hN hO hb1 HG HBy hl hcap
  rcases hff with ⟨cF, cS, cC⟩ | ⟨zz, rr, cF, cS, hY⟩
  · unfold FFc PG at cF
    unfold FSc PG at cS
    rw [HN.out] at cF cS
    unfold FCc PG at cC
    rw [HN.out] at cC
    have HC := hidP cC
    clear cC
    have HF := hidP cF
    have HS := hidP cS
    clear cF cS
    unfold frsV at HF HS
    go_wp2_with fail
    have nb := hidP (BoF.new w1 [.bool pl.s, .int .i64 pl.H.toInt, .int .i64 pl.L.toInt, .int .i64 pl.b] 27)
    have kk := alloc_belowF w1 (.cells #[.bool pl.s, .int .i64 pl.H.toInt, .int .i64 pl.L.toInt, .int .i64 pl.b] 27)
    generalize hNW : w1.alloc (.cells #[.bool pl.s, .int .i64 pl.H.toInt, .int .i64 pl.L.toInt, .int .i64 pl.b] 27) = V1 at *
    clear hNW
    have R_2 := hidP (R_1.out.later kk)
    have A_2 := hidP (A_1.out.trans (kk.mono A_1.out.size))
    clear kk R_1 A_1
    have P_2 := nb
    clear nb
    generalize w1.heap.size = eP at *
    refine (HF.out b d _ (rowP_G R_2.out)).mono ?_
    rintro e u3 ⟨rfl, k3⟩
    have P_3 := hidP (P_2.out.later k3)
    have R_3 := hidP (R_2.out.later k3)
    have A_3 := hidP (A_2.out.trans (k3.mono A_2.out.size))
    clear k3 P_2 R_2 A_2
    have Pc0 := P_3.out.cel 0 _ rfl
    have Pc1 := P_3.out.cel 1 _ rfl
    have Pc2 := P_3.out.cel 2 _ rfl
    have Pc3 := P_3.out.cel 3 _ rfl
    have Pl := P_3.out.lt
    go_wp2_with fail
    clear Pc0 Pc1 Pc2 Pc3 Pl
    have nb := hidP (BoF.new u3 [.bool false, .int .i64 0, .int .i64 0, .int .i64 0] 27)
    have kk := alloc_belowF u3 (.cells #[.bool false, .int .i64 0, .int .i64 0, .int .i64 0] 27)
    generalize hNW : u3.alloc (.cells #[.bool false, .int .i64 0, .int .i64 0, .int .i64 0] 27) = V3 at *
    clear hNW
    have P_4 := hidP (P_3.out.later kk)
    have R_4 := hidP (R_3.out.later kk)
    have A_4 := hidP (A_3.out.trans (kk.mono A_3.out.size))
    clear kk P_3 R_3 A_3
    have F_4 := nb
    clear nb
    generalize u3.heap.size = eF at *
    refine (HS.out b d _ (rowP_G R_4.out)).mono ?_
    rintro e u5 ⟨rfl, k5⟩
    have P_5 := hidP (P_4.out.later k5)
    have F_5 := hidP (F_4.out.later k5)
    have R_5 := hidP (R_4.out.later k5)
    have A_5 := hidP (A_4.out.trans (k5.mono A_4.out.size))
    clear k5 P_4 F_4 R_4 A_4
    have Pc0 := P_5.out.cel 0 _ rfl
    have Pc1 := P_5.out.cel 1 _ rfl
    have Pc2 := P_5.out.cel 2 _ rfl
    have Pc3 := P_5.out.cel 3 _ rfl
    have Pl := P_5.out.lt
    go_wp2_with fail
    clear Pc0 Pc1 Pc2 Pc3 Pl
    have kk := alloc_belowF u5 (.cells #[.bool false, .int .i64 0, .int .i64 0, .int .i64 0] 27)
    generalize u5.alloc (.cells #[.bool false, .int .i64 0, .int .i64 0, .int .i64 0] 27) = V9 at *
    have P_6 := hidP (P_5.out.later kk)
    have F_6 := hidP (F_5.out.later kk)
    have R_6 := hidP (R_5.out.later kk)
    have A_6 := hidP (A_5.out.trans (kk.mono A_5.out.size))
    clear kk P_5 F_5 R_5 A_5
    refine (HC.out b d _ (rowP_G R_6.out)).mono ?_
    rintro e u7 ⟨rfl, k7⟩
    have P_7 := hidP (P_6.out.later k7)
    have F_7 := hidP (F_6.out.later k7)
    have R_7 := hidP (R_6.out.later k7)
    have A_7 := hidP (A_6.out.trans (k7.mono A_6.out.size))
    clear k7 P_6 F_6 R_6 A_6
    go_wp2_with fail
    go_ret
    exact ⟨rfl, A_7.out⟩
  · obtain ⟨hbt, hov, hin, ⟨cn, cm, cC, cC2, hcn, hcm, hw1, hw2⟩, ⟨zs2, cF2, hnx⟩, ⟨lg, hlg, cL⟩⟩ := hY
    have HOv := hidP hov
    have HNx := hidP hnx
    unfold FFc PG at cF2
    unfold FCc PG at cC cC2
    unfold PG at cL hnx
    rw [HN.out] at cC cL
    have hlen2 : (us ++ [(⟨zz.s, zz.H, zz.L, z⟩ : Pf)]).length = N + 1 := by rw [List.length_append, HN.out]; rfl
    rw [hlen2] at cC2 cF2
    have HC := hidP cC
    have HC2 := hidP cC2
    have HF2 := hidP cF2
    have HL := hidP cL
    have HWi := hidP (fun W => iWithin_any zz.s zz.H zz.L z pl.s pl.H pl.L pl.b W)
    rw [hin] at HWi
    have g1 : decide (cn > 0) = true := decide_eq_true hcn
    have g2 : decide (0 < cn) = true := decide_eq_true hcn
    have gl : decide (lg.b ≤ z) = true := decide_eq_true hlg
    have gw : IntKind.i64.wrap (cn - 1) = cn - 1 := by rw [IntKind.wrap_i64]; omega
    clear cC cC2 cF2 cL hov hnx hin hbt
    unfold FFc PG at cF
    unfold FSc PG at cS
    rw [HN.out] at cF cS
    have HF := hidP cF
    have HS := hidP cS
    clear cF cS
    unfold frsV at HF HS
    go_wp2_with fail
    have nb := hidP (BoF.new w1 [.bool pl.s, .int .i64 pl.H.toInt, .int .i64 pl.L.toInt, .int .i64 pl.b] 27)
    have kk := alloc_belowF w1 (.cells #[.bool pl.s, .int .i64 pl.H.toInt, .int .i64 pl.L.toInt, .int .i64 pl.b] 27)
    generalize hNW : w1.alloc (.cells #[.bool pl.s, .int .i64 pl.H.toInt, .int .i64 pl.L.toInt, .int .i64 pl.b] 27) = V1 at *
    clear hNW
    have R_2 := hidP (R_1.out.later kk)
    have A_2 := hidP (A_1.out.trans (kk.mono A_1.out.size))
    clear kk R_1 A_1
    have P_2 := nb
    clear nb
    generalize w1.heap.size = eP at *
    refine (HF.out b d _ (rowP_G R_2.out)).mono ?_
    rintro e u3 ⟨rfl, k3⟩
    have P_3 := hidP (P_2.out.later k3)
    have R_3 := hidP (R_2.out.later k3)
    have A_3 := hidP (A_2.out.trans (k3.mono A_2.out.size))
    clear k3 P_2 R_2 A_2
    have Pc0 := P_3.out.cel 0 _ rfl
    have Pc1 := P_3.out.cel 1 _ rfl
    have Pc2 := P_3.out.cel 2 _ rfl
    have Pc3 := P_3.out.cel 3 _ rfl
    have Pl := P_3.out.lt
    go_wp2_with fail
    clear Pc0 Pc1 Pc2 Pc3 Pl
    have nb := hidP (BoF.new u3 [.bool zz.s, .int .i64 zz.H.toInt, .int .i64 zz.L.toInt, .int .i64 z] 27)
    have kk := alloc_belowF u3 (.cells #[.bool zz.s, .int .i64 zz.H.toInt, .int .i64 zz.L.toInt, .int .i64 z] 27)
    generalize hNW : u3.alloc (.cells #[.bool zz.s, .int .i64 zz.H.toInt, .int .i64 zz.L.toInt, .int .i64 z] 27) = V3 at *
    clear hNW
    have P_4 := hidP (P_3.out.later kk)
    have R_4 := hidP (R_3.out.later kk)
    have A_4 := hidP (A_3.out.trans (kk.mono A_3.out.size))
    clear kk P_3 R_3 A_3
    have F_4 := nb
    clear nb
    generalize u3.heap.size = eF at *
    refine (HS.out b d _ (rowP_G R_4.out)).mono ?_
    rintro e u5 ⟨rfl, k5⟩
    have P_5 := hidP (P_4.out.later k5)
    have F_5 := hidP (F_4.out.later k5)
    have R_5 := hidP (R_4.out.later k5)
    have A_5 := hidP (A_4.out.trans (k5.mono A_4.out.size))
    clear k5 P_4 F_4 R_4 A_4
    have Pc0 := P_5.out.cel 0 _ rfl
    have Pc1 := P_5.out.cel 1 _ rfl
    have Pc2 := P_5.out.cel 2 _ rfl
    have Pc3 := P_5.out.cel 3 _ rfl
    have Pl := P_5.out.lt
    go_wp2_with fail
    clear Pc0 Pc1 Pc2 Pc3 Pl
    have kk := alloc_belowF u5 (.cells #[.bool zz.s, .int .i64 zz.H.toInt, .int .i64 zz.L.toInt, .int .i64 z] 27)
    generalize u5.alloc (.cells #[.bool zz.s, .int .i64 zz.H.toInt, .int .i64 zz.L.toInt, .int .i64 z] 27) = V9 at *
    have P_6 := hidP (P_5.out.later kk)
    have F_6 := hidP (F_5.out.later kk)
    have R_6 := hidP (R_5.out.later kk)
    have A_6 := hidP (A_5.out.trans (kk.mono A_5.out.size))
    clear kk P_5 F_5 R_5 A_5
    refine (HC.out b d _ (rowP_G R_6.out)).mono ?_
    rintro e u7 ⟨rfl, k7⟩
    have P_7 := hidP (P_6.out.later k7)
    have F_7 := hidP (F_6.out.later k7)
    have R_7 := hidP (R_6.out.later k7)
    have A_7 := hidP (A_6.out.trans (k7.mono A_6.out.size))
    clear k7 P_6 F_6 R_6 A_6
    go_wp2_with fail
    go_loopw [11] (fun t11 wr => ∃ i : Nat, i ≤ N ∧ t11 = .int .i64 i ∧ Below u7.heap.size u7 wr) (fun t11 _ => N - (intOf t11).toNat)
    case atStart => exact ⟨0, Nat.zero_le _, rfl, Below.refl _ _⟩
    case round =>
      obtain ⟨i, hi, rfl, hbel⟩ := hrel
      obtain ⟨v, rfl⟩ : ∃ X, X = wr := ⟨_, rfl⟩
      have HB := hidP hbel
      have Fv := hidP (F_7.out.later hbel)
      have Pv := hidP (P_7.out.later hbel)
      have Rv := hidP (R_7.out.later hbel)
      clear hbel
      by_cases hlt : i < N
      · obtain ⟨pp, oo, q, rfl, hpp, hq, f0, f1, f2, f3⟩ := (rowP_G Rv.out) i (by have := HN.out; omega)
        have i0 : (0 : Int) ≤ (i : Int) := by omega
        have i1 : (i : Int) < (N : Int) := by omega
        have ho := HOv.out q (List.mem_of_getElem? hq)
        have HOq := hidP (fun W => iOverlaps_any zz.s zz.H zz.L z q.s q.H q.L q.b W)
        rw [ho] at HOq
        clear ho hq
        have y0 := Fv.out.cel 0 _ rfl
        have y1 := Fv.out.cel 1 _ rfl
        have y2 := Fv.out.cel 2 _ rfl
        have y3 := Fv.out.cel 3 _ rfl
        have yl := Fv.out.lt
        go_upto_region 14 with fail
        have HSx : Hid (∀ x, Below v.heap.size v x → (x.cell? ⟨eF, 0, none⟩ = some (.bool zz.s) ∧ x.cell? ⟨eF, 1, none⟩ = some (.int .i64 zz.H.toInt) ∧ x.cell? ⟨eF, 2, none⟩ = some (.int .i64 zz.L.toInt) ∧ x.cell? ⟨eF, 3, none⟩ = some (.int .i64 z) ∧ x.cell? ⟨pp, oo + i * 4, none⟩ = some (.bool q.s) ∧ x.cell? ⟨pp, oo + i * 4 + 1, none⟩ = some (.int .i64 q.H.toInt) ∧ x.cell? ⟨pp, oo + i * 4 + 2, none⟩ = some (.int .i64 q.L.toInt) ∧ x.cell? ⟨pp, oo + i * 4 + 3, none⟩ = some (.int .i64 q.b) ∧ Below v.heap.size v x)) := hidP fun x h =>
          ⟨(h.cell yl).trans y0, (h.cell yl).trans y1, (h.cell yl).trans y2, (h.cell yl).trans y3, (h.cell hpp).trans f0, (h.cell hpp).trans f1, (h.cell hpp).trans f2, (h.cell hpp).trans f3, h⟩
        refine wp_region_held_drew (S := (fun x => x.cell? ⟨eF, 0, none⟩ = some (.bool zz.s) ∧ x.cell? ⟨eF, 1, none⟩ = some (.int .i64 zz.H.toInt) ∧ x.cell? ⟨eF, 2, none⟩ = some (.int .i64 zz.L.toInt) ∧ x.cell? ⟨eF, 3, none⟩ = some (.int .i64 z) ∧ x.cell? ⟨pp, oo + i * 4, none⟩ = some (.bool q.s) ∧ x.cell? ⟨pp, oo + i * 4 + 1, none⟩ = some (.int .i64 q.H.toInt) ∧ x.cell? ⟨pp, oo + i * 4 + 2, none⟩ = some (.int .i64 q.L.toInt) ∧ x.cell? ⟨pp, oo + i * 4 + 3, none⟩ = some (.int .i64 q.b) ∧ Below v.heap.size v x)) (by kernel_rfl) ?_ (fun hHeld => ?_)
        · try dsimp only
          exact HSx.out _ ((Below.refl _ _).drew)
        refine tk 0 61 rfl ?_
        simp only [pa]
        refine tk 1 62 rfl ?_
        simp only [pa]
        refine tk 2 63 rfl ?_
        simp only [pa]
        refine tk 3 64 rfl ?_
        simp only [pa]
        refine tk 4 65 rfl ?_
        simp only [pa]
        refine wpAnyH_ready (rs := [5]) (by kernel_rfl) (by simp) ?_
        refine AllReadyH.cons rfl (fun K hK => ?_) AllReadyH.nil
        go_simp
        go_wp2_with (first | (go_at_call 9; refine (HOq.out _).mono ?_; rintro e w2 ⟨rfl, hb2⟩; have b2 := (hHeld.2.2.2.2.2.2.2.2).trans (hb2.mono (hHeld.2.2.2.2.2.2.2.2).size)))
        refine hK.out _ _ ?_ (fun hHeld => ?_)
        · try dsimp only
          exact HSx.out _ b2
        clear hK K
        have HE := hidP (hHeld.2.2.2.2.2.2.2.2)
        refine wpAnyH_done (by kernel_rfl) ?_ _
        clear hHeld
        go_wp2_with fail
        go_roundw
        case rel => exact ⟨i + 1, by omega, by go_num, HB.out.trans (HE.out.mono HB.out.size)⟩
        case measure => simp [intOf]; omega
      · have gi : decide ((i : Int) < (N : Int)) = false := decide_eq_false (by omega)
        have Av := hidP (A_7.out.trans (HB.out.mono A_7.out.size))
        clear HB A_7 F_7 P_7 R_7
        have y0 := Fv.out.cel 0 _ rfl
        have y1 := Fv.out.cel 1 _ rfl
        have y2 := Fv.out.cel 2 _ rfl
        have y3 := Fv.out.cel 3 _ rfl
        have yl := Fv.out.lt
        go_upto_region 16 with fail
        have hD : Below v.heap.size v v.drew := (Below.refl _ _).drew
        have HSx : Hid (∀ x, Below v.heap.size v x → (x.cell? ⟨eF, 0, none⟩ = some (.bool zz.s) ∧ x.cell? ⟨eF, 1, none⟩ = some (.int .i64 zz.H.toInt) ∧ x.cell? ⟨eF, 2, none⟩ = some (.int .i64 zz.L.toInt) ∧ x.cell? ⟨eF, 3, none⟩ = some (.int .i64 z))) := hidP fun x h => ⟨(h.cell yl).trans y0, (h.cell yl).trans y1, (h.cell yl).trans y2, (h.cell yl).trans y3⟩
        have KD := hidP hD
        have RD := hidP (Rv.out.later hD)
        have sD : v.heap.size ≤ v.drew.heap.size := hD.size
        refine wp_region_held_drew (S := (fun x => x.cell? ⟨eF, 0, none⟩ = some (.bool zz.s) ∧ x.cell? ⟨eF, 1, none⟩ = some (.int .i64 zz.H.toInt) ∧ x.cell? ⟨eF, 2, none⟩ = some (.int .i64 zz.L.toInt) ∧ x.cell? ⟨eF, 3, none⟩ = some (.int .i64 z))) (by kernel_rfl) ?_ (fun hHeld => ?_)
        · try dsimp only
          exact HSx.out _ KD.out
        clear hD
        generalize v.drew = D at *
        refine tk 1 68 rfl ?_
        simp only [pa]
        refine tk 3 70 rfl ?_
        simp only [pa]
        refine wpAnyH_ready (rs := [0, 4]) (by kernel_rfl) (by simp) ?_
        refine AllReadyH.cons rfl (fun K hK => ?_) (AllReadyH.cons rfl (fun K hK => ?_) AllReadyH.nil)
        · go_simp
          have ab := alloc_belowF D (.cells #[] 27)
          have K1 := hidP (KD.out.trans (ab.mono sD))
          have R1 := hidP (RD.out.later ab)
          have O1 := hidP (own_zeroG KPq D v.heap.size 27 sD)
          have s1 : v.heap.size ≤ (D.alloc (.cells #[] 27)).heap.size := Nat.le_trans sD ab.size
          clear ab
          generalize D.alloc (.cells #[] 27) = x1 at *
          generalize D.heap.size = g1 at *
          refine hK.out _ _ ?_ (fun hHeld => ?_)
          · try dsimp only
            exact HSx.out _ K1.out
          clear hK K
          refine wpAnyH_ready (rs := [2, 4]) (by kernel_rfl) (by simp) ?_
          refine AllReadyH.cons rfl (fun K hK => ?_) (AllReadyH.cons rfl (fun K hK => ?_) AllReadyH.nil)
          · refine step_appG Try.tyPq _ rfl (.tmp 67) (.tmp 68) 28 rfl v.heap.size (some ⟨g1, 0, none⟩) 0 0 N [] us _ rfl rfl HN.out.symm O1.out rfl (src_rowG (K := KPq) Try.underlying28 N d (by decide) HN.out.symm R1.out HCap.out) (by omega) s1 ?_
            intro a2 c2 x2 o2 r2 h2
            have K2 := hidP (below_appG K1.out O1.out s1 r2)
            have s2 : v.heap.size ≤ x2.heap.size := Nat.le_trans s1 r2.size
            rw [List.nil_append] at o2
            have O2 := hidP o2
            clear o2 r2 h2
            refine hK.out _ _ ?_ (fun hHeld => ?_)
            · try dsimp only
              exact HSx.out _ K2.out
            clear hK K
            try simp only [pa]
            rw [Nat.zero_add] at *
            refine wpAnyH_ready (rs := [4]) (by kernel_rfl) (by simp) ?_
            refine AllReadyH.cons rfl (fun K hK => ?_) AllReadyH.nil
            go_simp
            have ab := alloc_belowF x2 (.cells #[.bool zz.s, .int .i64 zz.H.toInt, .int .i64 zz.L.toInt, .int .i64 z] 27)
            have K3 := hidP (K2.out.trans (ab.mono s2))
            have O3 := hidP (O2.out.later ab)
            have Q3 : Hid (OwnG KPq 27 (x2.alloc (.cells #[.bool zz.s, .int .i64 zz.H.toInt, .int .i64 zz.L.toInt, .int .i64 z] 27)) v.heap.size (.slice (some ⟨x2.heap.size, 0, none⟩) 1 1) [(⟨zz.s, zz.H, zz.L, z⟩ : Pf)]) := hidP (own_oneG KPq x2 v.heap.size 27 (⟨zz.s, zz.H, zz.L, z⟩ : Pf) s2)
            have s3 : v.heap.size ≤ (x2.alloc (.cells #[.bool zz.s, .int .i64 zz.H.toInt, .int .i64 zz.L.toInt, .int .i64 z] 27)).heap.size := Nat.le_trans s2 ab.size
            clear ab
            generalize x2.alloc (.cells #[.bool zz.s, .int .i64 zz.H.toInt, .int .i64 zz.L.toInt, .int .i64 z] 27) = x3 at *
            generalize x2.heap.size = g3 at *
            refine hK.out _ _ ?_ (fun hHeld => ?_)
            · try dsimp only
              exact HSx.out _ K3.out
            clear hK K
            refine wpAnyH_ready (rs := [5]) (by kernel_rfl) (by simp) ?_
            refine AllReadyH.cons rfl (fun K hK => ?_) AllReadyH.nil
            refine step_appG Try.tyPq _ rfl (.tmp 69) (.tmp 71) 28 rfl v.heap.size _ N _ 1 us [(⟨zz.s, zz.H, zz.L, z⟩ : Pf)] _ rfl HN.out.symm rfl O3.out rfl (src_rowG (K := KPq) Try.underlying28 1 1 (by decide) rfl (OwnG.row Q3.out) (fun h => by cases h)) (by omega) s3 ?_
            intro a4 c4 x4 o4 r4 h4
            have K4 := hidP (below_appG K3.out O3.out s3 r4)
            have s4 : v.heap.size ≤ x4.heap.size := Nat.le_trans s3 r4.size
            have O4 := hidP o4
            clear o4 r4 h4
            refine hK.out _ _ ?_ (fun hHeld => ?_)
            · try dsimp only
              exact HSx.out _ K4.out
            clear hK K
            try simp only [pa]
            refine tk 6 12 rfl ?_
            simp only [pa]
            refine wpAnyH_done (by kernel_rfl) ?_ _
            clear hHeld HSx
            have M_1 := hidP (rowP_G (OwnG.row O4.out))
            have P_1 := hidP (Pv.out.later K4.out)
            have F_1 := hidP (Fv.out.later K4.out)
            have R_1 := hidP (Rv.out.later K4.out)
            have A_1 := hidP (Av.out.trans (K4.out.mono Av.out.size))
            clear K4 Pv Fv Rv Av y0 y1 y2 y3 yl O4 Q3
            have Pc0 := P_1.out.cel 0 _ rfl
            have Pc1 := P_1.out.cel 1 _ rfl
            have Pc2 := P_1.out.cel 2 _ rfl
            have Pc3 := P_1.out.cel 3 _ rfl
            have Pl := P_1.out.lt
            have Fc0 := F_1.out.cel 0 _ rfl
            have Fc1 := F_1.out.cel 1 _ rfl
            have Fc2 := F_1.out.cel 2 _ rfl
            have Fc3 := F_1.out.cel 3 _ rfl
            have Fl := F_1.out.lt
            go_wp2_with fail
            clear Pc0 Pc1 Pc2 Pc3 Pl
            clear Fc0 Fc1 Fc2 Fc3 Fl
            refine (HC2.out a4 c4 _ M_1.out).mono ?_
            rintro e u2 ⟨rfl, k2⟩
            have P_2 := hidP (P_1.out.later k2)
            have F_2 := hidP (F_1.out.later k2)
            have R_2 := hidP (R_1.out.later k2)
            have M_2 := hidP (M_1.out.later k2)
            have A_2 := hidP (A_1.out.trans (k2.mono A_1.out.size))
            clear k2 P_1 F_1 R_1 M_1 A_1
            have Pc0 := P_2.out.cel 0 _ rfl
            have Pc1 := P_2.out.cel 1 _ rfl
            have Pc2 := P_2.out.cel 2 _ rfl
            have Pc3 := P_2.out.cel 3 _ rfl
            have Pl := P_2.out.lt
            have Fc0 := F_2.out.cel 0 _ rfl
            have Fc1 := F_2.out.cel 1 _ rfl
            have Fc2 := F_2.out.cel 2 _ rfl
            have Fc3 := F_2.out.cel 3 _ rfl
            have Fl := F_2.out.lt
            go_wp2_with fail
            clear Pc0 Pc1 Pc2 Pc3 Pl
            clear Fc0 Fc1 Fc2 Fc3 Fl
            refine (HF2.out a4 c4 _ M_2.out).mono ?_
            rintro e u3 ⟨rfl, k3⟩
            have P_3 := hidP (P_2.out.later k3)
            have F_3 := hidP (F_2.out.later k3)
            have R_3 := hidP (R_2.out.later k3)
            have M_3 := hidP (M_2.out.later k3)
            have A_3 := hidP (A_2.out.trans (k3.mono A_2.out.size))
            clear k3 P_2 F_2 R_2 M_2 A_2
            cases zs2 with
            | nil =>
              clear M_3
              unfold frsV
              dsimp only
              have Pc0 := P_3.out.cel 0 _ rfl
              have Pc1 := P_3.out.cel 1 _ rfl
              have Pc2 := P_3.out.cel 2 _ rfl
              have Pc3 := P_3.out.cel 3 _ rfl
              have Pl := P_3.out.lt
              have Fc0 := F_3.out.cel 0 _ rfl
              have Fc1 := F_3.out.cel 1 _ rfl
              have Fc2 := F_3.out.cel 2 _ rfl
              have Fc3 := F_3.out.cel 3 _ rfl
              have Fl := F_3.out.lt
              go_wp2_with fail
              clear Pc0 Pc1 Pc2 Pc3 Pl
              clear Fc0 Fc1 Fc2 Fc3 Fl
              have nb := hidP (BoF.new u3 [.bool false, .int .i64 0, .int .i64 0, .int .i64 0] 27)
              have kk := alloc_belowF u3 (.cells #[.bool false, .int .i64 0, .int .i64 0, .int .i64 0] 27)
              generalize hNW : u3.alloc (.cells #[.bool false, .int .i64 0, .int .i64 0, .int .i64 0] 27) = V3 at *
              clear hNW
              have P_4 := hidP (P_3.out.later kk)
              have F_4 := hidP (F_3.out.later kk)
              have R_4 := hidP (R_3.out.later kk)
              have A_4 := hidP (A_3.out.trans (kk.mono A_3.out.size))
              clear kk P_3 F_3 R_3 A_3
              have N_4 := nb
              clear nb
              generalize u3.heap.size = eN at *
              refine (HL.out b d _ (rowP_G R_4.out)).mono ?_
              rintro e u5 ⟨rfl, k5⟩
              have P_5 := hidP (P_4.out.later k5)
              have F_5 := hidP (F_4.out.later k5)
              have N_5 := hidP (N_4.out.later k5)
              have R_5 := hidP (R_4.out.later k5)
              have A_5 := hidP (A_4.out.trans (k5.mono A_4.out.size))
              clear k5 P_4 F_4 N_4 R_4 A_4
              have Pc0 := P_5.out.cel 0 _ rfl
              have Pc1 := P_5.out.cel 1 _ rfl
              have Pc2 := P_5.out.cel 2 _ rfl
              have Pc3 := P_5.out.cel 3 _ rfl
              have Pl := P_5.out.lt
              have Fc0 := F_5.out.cel 0 _ rfl
              have Fc1 := F_5.out.cel 1 _ rfl
              have Fc2 := F_5.out.cel 2 _ rfl
              have Fc3 := F_5.out.cel 3 _ rfl
              have Fl := F_5.out.lt
              have Nc0 := N_5.out.cel 0 _ rfl
              have Nc1 := N_5.out.cel 1 _ rfl
              have Nc2 := N_5.out.cel 2 _ rfl
              have Nc3 := N_5.out.cel 3 _ rfl
              have Nl := N_5.out.lt
              go_wp2_with fail
              clear Pc0 Pc1 Pc2 Pc3 Pl
              clear Fc0 Fc1 Fc2 Fc3 Fl
              clear Nc0 Nc1 Nc2 Nc3 Nl
              have nb := hidP (BoF.new u5 [.bool lg.s, .int .i64 lg.H.toInt, .int .i64 lg.L.toInt, .int .i64 lg.b] 27)
              have kk := alloc_belowF u5 (.cells #[.bool lg.s, .int .i64 lg.H.toInt, .int .i64 lg.L.toInt, .int .i64 lg.b] 27)
              generalize hNW : u5.alloc (.cells #[.bool lg.s, .int .i64 lg.H.toInt, .int .i64 lg.L.toInt, .int .i64 lg.b] 27) = V5 at *
              clear hNW
              have P_6 := hidP (P_5.out.later kk)
              have F_6 := hidP (F_5.out.later kk)
              have N_6 := hidP (N_5.out.later kk)
              have R_6 := hidP (R_5.out.later kk)
              have A_6 := hidP (A_5.out.trans (kk.mono A_5.out.size))
              clear kk P_5 F_5 N_5 R_5 A_5
              have G_6 := nb
              clear nb
              generalize u5.heap.size = eG at *
              refine (HWi.out _).mono ?_
              rintro e u7 ⟨rfl, k7⟩
              have P_7 := hidP (P_6.out.later k7)
              have F_7 := hidP (F_6.out.later k7)
              have N_7 := hidP (N_6.out.later k7)
              have G_7 := hidP (G_6.out.later k7)
              have R_7 := hidP (R_6.out.later k7)
              have A_7 := hidP (A_6.out.trans (k7.mono A_6.out.size))
              clear k7 P_6 F_6 N_6 G_6 R_6 A_6
              have Pc0 := P_7.out.cel 0 _ rfl
              have Pc1 := P_7.out.cel 1 _ rfl
              have Pc2 := P_7.out.cel 2 _ rfl
              have Pc3 := P_7.out.cel 3 _ rfl
              have Pl := P_7.out.lt
              have Fc0 := F_7.out.cel 0 _ rfl
              have Fc1 := F_7.out.cel 1 _ rfl
              have Fc2 := F_7.out.cel 2 _ rfl
              have Fc3 := F_7.out.cel 3 _ rfl
              have Fl := F_7.out.lt
              have Nc0 := N_7.out.cel 0 _ rfl
              have Nc1 := N_7.out.cel 1 _ rfl
              have Nc2 := N_7.out.cel 2 _ rfl
              have Nc3 := N_7.out.cel 3 _ rfl
              have Nl := N_7.out.lt
              have Gc0 := G_7.out.cel 0 _ rfl
              have Gc1 := G_7.out.cel 1 _ rfl
              have Gc2 := G_7.out.cel 2 _ rfl
              have Gc3 := G_7.out.cel 3 _ rfl
              have Gl := G_7.out.lt
              cases h62 : (cn == 4611686018427387904)
              · have hmn : (cm == cn - 1) = true := by rw [h62, Bool.false_or] at hcm; exact hcm
                go_wp2_with fail
                go_ret
                exact ⟨rfl, A_7.out⟩
              · go_wp2_with fail
                go_ret
                exact ⟨rfl, A_7.out⟩
            | cons z2 r2 =>
              have HCp := hidP (HNx.out z2 r2 rfl)
              unfold PG at HCp
              clear M_3
              unfold frsV
              dsimp only
              have Pc0 := P_3.out.cel 0 _ rfl
              have Pc1 := P_3.out.cel 1 _ rfl
              have Pc2 := P_3.out.cel 2 _ rfl
              have Pc3 := P_3.out.cel 3 _ rfl
              have Pl := P_3.out.lt
              have Fc0 := F_3.out.cel 0 _ rfl
              have Fc1 := F_3.out.cel 1 _ rfl
              have Fc2 := F_3.out.cel 2 _ rfl
              have Fc3 := F_3.out.cel 3 _ rfl
              have Fl := F_3.out.lt
              go_wp2_with fail
              clear Pc0 Pc1 Pc2 Pc3 Pl
              clear Fc0 Fc1 Fc2 Fc3 Fl
              have nb := hidP (BoF.new u3 [.bool z2.s, .int .i64 z2.H.toInt, .int .i64 z2.L.toInt, .int .i64 z] 27)
              have kk := alloc_belowF u3 (.cells #[.bool z2.s, .int .i64 z2.H.toInt, .int .i64 z2.L.toInt, .int .i64 z] 27)
              generalize hNW : u3.alloc (.cells #[.bool z2.s, .int .i64 z2.H.toInt, .int .i64 z2.L.toInt, .int .i64 z] 27) = V3 at *
              clear hNW
              have P_4 := hidP (P_3.out.later kk)
              have F_4 := hidP (F_3.out.later kk)
              have R_4 := hidP (R_3.out.later kk)
              have A_4 := hidP (A_3.out.trans (kk.mono A_3.out.size))
              clear kk P_3 F_3 R_3 A_3
              have N_4 := nb
              clear nb
              generalize u3.heap.size = eN at *
              refine (HL.out b d _ (rowP_G R_4.out)).mono ?_
              rintro e u5 ⟨rfl, k5⟩
              have P_5 := hidP (P_4.out.later k5)
              have F_5 := hidP (F_4.out.later k5)
              have N_5 := hidP (N_4.out.later k5)
              have R_5 := hidP (R_4.out.later k5)
              have A_5 := hidP (A_4.out.trans (k5.mono A_4.out.size))
              clear k5 P_4 F_4 N_4 R_4 A_4
              have Pc0 := P_5.out.cel 0 _ rfl
              have Pc1 := P_5.out.cel 1 _ rfl
              have Pc2 := P_5.out.cel 2 _ rfl
              have Pc3 := P_5.out.cel 3 _ rfl
              have Pl := P_5.out.lt
              have Fc0 := F_5.out.cel 0 _ rfl
              have Fc1 := F_5.out.cel 1 _ rfl
              have Fc2 := F_5.out.cel 2 _ rfl
              have Fc3 := F_5.out.cel 3 _ rfl
              have Fl := F_5.out.lt
              have Nc0 := N_5.out.cel 0 _ rfl
              have Nc1 := N_5.out.cel 1 _ rfl
              have Nc2 := N_5.out.cel 2 _ rfl
              have Nc3 := N_5.out.cel 3 _ rfl
              have Nl := N_5.out.lt
              go_wp2_with fail
              clear Pc0 Pc1 Pc2 Pc3 Pl
              clear Fc0 Fc1 Fc2 Fc3 Fl
              clear Nc0 Nc1 Nc2 Nc3 Nl
              have nb := hidP (BoF.new u5 [.bool lg.s, .int .i64 lg.H.toInt, .int .i64 lg.L.toInt, .int .i64 lg.b] 27)
              have kk := alloc_belowF u5 (.cells #[.bool lg.s, .int .i64 lg.H.toInt, .int .i64 lg.L.toInt, .int .i64 lg.b] 27)
              generalize hNW : u5.alloc (.cells #[.bool lg.s, .int .i64 lg.H.toInt, .int .i64 lg.L.toInt, .int .i64 lg.b] 27) = V5 at *
              clear hNW
              have P_6 := hidP (P_5.out.later kk)
              have F_6 := hidP (F_5.out.later kk)
              have N_6 := hidP (N_5.out.later kk)
              have R_6 := hidP (R_5.out.later kk)
              have A_6 := hidP (A_5.out.trans (kk.mono A_5.out.size))
              clear kk P_5 F_5 N_5 R_5 A_5
              have G_6 := nb
              clear nb
              generalize u5.heap.size = eG at *
              refine (HWi.out _).mono ?_
              rintro e u7 ⟨rfl, k7⟩
              have P_7 := hidP (P_6.out.later k7)
              have F_7 := hidP (F_6.out.later k7)
              have N_7 := hidP (N_6.out.later k7)
              have G_7 := hidP (G_6.out.later k7)
              have R_7 := hidP (R_6.out.later k7)
              have A_7 := hidP (A_6.out.trans (k7.mono A_6.out.size))
              clear k7 P_6 F_6 N_6 G_6 R_6 A_6
              have Pc0 := P_7.out.cel 0 _ rfl
              have Pc1 := P_7.out.cel 1 _ rfl
              have Pc2 := P_7.out.cel 2 _ rfl
              have Pc3 := P_7.out.cel 3 _ rfl
              have Pl := P_7.out.lt
              have Fc0 := F_7.out.cel 0 _ rfl
              have Fc1 := F_7.out.cel 1 _ rfl
              have Fc2 := F_7.out.cel 2 _ rfl
              have Fc3 := F_7.out.cel 3 _ rfl
              have Fl := F_7.out.lt
              have Nc0 := N_7.out.cel 0 _ rfl
              have Nc1 := N_7.out.cel 1 _ rfl
              have Nc2 := N_7.out.cel 2 _ rfl
              have Nc3 := N_7.out.cel 3 _ rfl
              have Nl := N_7.out.lt
              have Gc0 := G_7.out.cel 0 _ rfl
              have Gc1 := G_7.out.cel 1 _ rfl
              have Gc2 := G_7.out.cel 2 _ rfl
              have Gc3 := G_7.out.cel 3 _ rfl
              have Gl := G_7.out.lt
              cases h62 : (cn == 4611686018427387904)
              · have hmn : (cm == cn - 1) = true := by rw [h62, Bool.false_or] at hcm; exact hcm
                go_wp2_with fail
                clear Pc0 Pc1 Pc2 Pc3 Pl
                clear Fc0 Fc1 Fc2 Fc3 Fl
                clear Nc0 Nc1 Nc2 Nc3 Nl
                clear Gc0 Gc1 Gc2 Gc3 Gl
                refine (HCp.out _).mono ?_
                rintro e u8 ⟨rfl, k8⟩
                have P_8 := hidP (P_7.out.later k8)
                have F_8 := hidP (F_7.out.later k8)
                have N_8 := hidP (N_7.out.later k8)
                have G_8 := hidP (G_7.out.later k8)
                have R_8 := hidP (R_7.out.later k8)
                have A_8 := hidP (A_7.out.trans (k8.mono A_7.out.size))
                clear k8 P_7 F_7 N_7 G_7 R_7 A_7
                have Pc0 := P_8.out.cel 0 _ rfl
                have Pc1 := P_8.out.cel 1 _ rfl
                have Pc2 := P_8.out.cel 2 _ rfl
                have Pc3 := P_8.out.cel 3 _ rfl
                have Pl := P_8.out.lt
                have Fc0 := F_8.out.cel 0 _ rfl
                have Fc1 := F_8.out.cel 1 _ rfl
                have Fc2 := F_8.out.cel 2 _ rfl
                have Fc3 := F_8.out.cel 3 _ rfl
                have Fl := F_8.out.lt
                have Nc0 := N_8.out.cel 0 _ rfl
                have Nc1 := N_8.out.cel 1 _ rfl
                have Nc2 := N_8.out.cel 2 _ rfl
                have Nc3 := N_8.out.cel 3 _ rfl
                have Nl := N_8.out.lt
                have Gc0 := G_8.out.cel 0 _ rfl
                have Gc1 := G_8.out.cel 1 _ rfl
                have Gc2 := G_8.out.cel 2 _ rfl
                have Gc3 := G_8.out.cel 3 _ rfl
                have Gl := G_8.out.lt
                go_wp2_with fail
                go_ret
                exact ⟨rfl, A_8.out⟩
              · go_wp2_with fail
                clear Pc0 Pc1 Pc2 Pc3 Pl
                clear Fc0 Fc1 Fc2 Fc3 Fl
                clear Nc0 Nc1 Nc2 Nc3 Nl
                clear Gc0 Gc1 Gc2 Gc3 Gl
                refine (HCp.out _).mono ?_
                rintro e u8 ⟨rfl, k8⟩
                have P_8 := hidP (P_7.out.later k8)
                have F_8 := hidP (F_7.out.later k8)
                have N_8 := hidP (N_7.out.later k8)
                have G_8 := hidP (G_7.out.later k8)
                have R_8 := hidP (R_7.out.later k8)
                have A_8 := hidP (A_7.out.trans (k8.mono A_7.out.size))
                clear k8 P_7 F_7 N_7 G_7 R_7 A_7
                have Pc0 := P_8.out.cel 0 _ rfl
                have Pc1 := P_8.out.cel 1 _ rfl
                have Pc2 := P_8.out.cel 2 _ rfl
                have Pc3 := P_8.out.cel 3 _ rfl
                have Pl := P_8.out.lt
                have Fc0 := F_8.out.cel 0 _ rfl
                have Fc1 := F_8.out.cel 1 _ rfl
                have Fc2 := F_8.out.cel 2 _ rfl
                have Fc3 := F_8.out.cel 3 _ rfl
                have Fl := F_8.out.lt
                have Nc0 := N_8.out.cel 0 _ rfl
                have Nc1 := N_8.out.cel 1 _ rfl
                have Nc2 := N_8.out.cel 2 _ rfl
                have Nc3 := N_8.out.cel 3 _ rfl
                have Nl := N_8.out.lt
                have Gc0 := G_8.out.cel 0 _ rfl
                have Gc1 := G_8.out.cel 1 _ rfl
                have Gc2 := G_8.out.cel 2 _ rfl
                have Gc3 := G_8.out.cel 3 _ rfl
                have Gl := G_8.out.lt
                go_wp2_with fail
                go_ret
                exact ⟨rfl, A_8.out⟩
          · go_simp
            have ab := alloc_belowF x1 (.cells #[.bool zz.s, .int .i64 zz.H.toInt, .int .i64 zz.L.toInt, .int .i64 z] 27)
            have K5 := hidP (K1.out.trans (ab.mono s1))
            have R5 := hidP (R1.out.later ab)
            have O5 := hidP (O1.out.later ab)
            have Q5 : Hid (OwnG KPq 27 (x1.alloc (.cells #[.bool zz.s, .int .i64 zz.H.toInt, .int .i64 zz.L.toInt, .int .i64 z] 27)) v.heap.size (.slice (some ⟨x1.heap.size, 0, none⟩) 1 1) [(⟨zz.s, zz.H, zz.L, z⟩ : Pf)]) := hidP (own_oneG KPq x1 v.heap.size 27 (⟨zz.s, zz.H, zz.L, z⟩ : Pf) s1)
            have N5 : Hid (g1 ≠ x1.heap.size) := hidP (by have := (OwnG.lt O1.out g1 rfl).2; omega)
            have s5 : v.heap.size ≤ (x1.alloc (.cells #[.bool zz.s, .int .i64 zz.H.toInt, .int .i64 zz.L.toInt, .int .i64 z] 27)).heap.size := Nat.le_trans s1 ab.size
            clear ab
            generalize x1.alloc (.cells #[.bool zz.s, .int .i64 zz.H.toInt, .int .i64 zz.L.toInt, .int .i64 z] 27) = x5 at *
            generalize x1.heap.size = g5 at *
            refine hK.out _ _ ?_ (fun hHeld => ?_)
            · try dsimp only
              exact HSx.out _ K5.out
            clear hK K
            refine wpAnyH_ready (rs := [2]) (by kernel_rfl) (by simp) ?_
            refine AllReadyH.cons rfl (fun K hK => ?_) AllReadyH.nil
            refine step_appG Try.tyPq _ rfl (.tmp 67) (.tmp 68) 28 rfl v.heap.size (some ⟨g1, 0, none⟩) 0 0 N [] us _ rfl rfl HN.out.symm O5.out rfl (src_rowG (K := KPq) Try.underlying28 N d (by decide) HN.out.symm R5.out HCap.out) (by omega) s5 ?_
            intro a6 c6 x6 o6 r6 h6
            have K6 := hidP (below_appG K5.out O5.out s5 r6)
            have s6 : v.heap.size ≤ x6.heap.size := Nat.le_trans s5 r6.size
            have Q6 := hidP (OwnG.grown Q5.out r6 (fun j hj e => by have h5 := N5.out; simp [Value.ownBlock] at hj e; omega))
            rw [List.nil_append] at o6
            have O6 := hidP o6
            clear o6 r6 h6
            refine hK.out _ _ ?_ (fun hHeld => ?_)
            · try dsimp only
              exact HSx.out _ K6.out
            clear hK K
            try simp only [pa]
            rw [Nat.zero_add] at *
            refine wpAnyH_ready (rs := [5]) (by kernel_rfl) (by simp) ?_
            refine AllReadyH.cons rfl (fun K hK => ?_) AllReadyH.nil
            refine step_appG Try.tyPq _ rfl (.tmp 69) (.tmp 71) 28 rfl v.heap.size _ N _ 1 us [(⟨zz.s, zz.H, zz.L, z⟩ : Pf)] _ rfl HN.out.symm rfl O6.out rfl (src_rowG (K := KPq) Try.underlying28 1 1 (by decide) rfl (OwnG.row Q6.out) (fun h => by cases h)) (by omega) s6 ?_
            intro a7 c7 x7 o7 r7 h7
            have K7 := hidP (below_appG K6.out O6.out s6 r7)
            have s7 : v.heap.size ≤ x7.heap.size := Nat.le_trans s6 r7.size
            have O7 := hidP o7
            clear o7 r7 h7
            refine hK.out _ _ ?_ (fun hHeld => ?_)
            · try dsimp only
              exact HSx.out _ K7.out
            clear hK K
            try simp only [pa]
            refine tk 6 12 rfl ?_
            simp only [pa]
            refine wpAnyH_done (by kernel_rfl) ?_ _
            clear hHeld HSx
            have M_1 := hidP (rowP_G (OwnG.row O7.out))
            have P_1 := hidP (Pv.out.later K7.out)
            have F_1 := hidP (Fv.out.later K7.out)
            have R_1 := hidP (Rv.out.later K7.out)
            have A_1 := hidP (Av.out.trans (K7.out.mono Av.out.size))
            clear K7 Pv Fv Rv Av y0 y1 y2 y3 yl O7 Q6
            have Pc0 := P_1.out.cel 0 _ rfl
            have Pc1 := P_1.out.cel 1 _ rfl
            have Pc2 := P_1.out.cel 2 _ rfl
            have Pc3 := P_1.out.cel 3 _ rfl
            have Pl := P_1.out.lt
            have Fc0 := F_1.out.cel 0 _ rfl
            have Fc1 := F_1.out.cel 1 _ rfl
            have Fc2 := F_1.out.cel 2 _ rfl
            have Fc3 := F_1.out.cel 3 _ rfl
            have Fl := F_1.out.lt
            go_wp2_with fail
            clear Pc0 Pc1 Pc2 Pc3 Pl
            clear Fc0 Fc1 Fc2 Fc3 Fl
            refine (HC2.out a7 c7 _ M_1.out).mono ?_
            rintro e u2 ⟨rfl, k2⟩
            have P_2 := hidP (P_1.out.later k2)
            have F_2 := hidP (F_1.out.later k2)
            have R_2 := hidP (R_1.out.later k2)
            have M_2 := hidP (M_1.out.later k2)
            have A_2 := hidP (A_1.out.trans (k2.mono A_1.out.size))
            clear k2 P_1 F_1 R_1 M_1 A_1
            have Pc0 := P_2.out.cel 0 _ rfl
            have Pc1 := P_2.out.cel 1 _ rfl
            have Pc2 := P_2.out.cel 2 _ rfl
            have Pc3 := P_2.out.cel 3 _ rfl
            have Pl := P_2.out.lt
            have Fc0 := F_2.out.cel 0 _ rfl
            have Fc1 := F_2.out.cel 1 _ rfl
            have Fc2 := F_2.out.cel 2 _ rfl
            have Fc3 := F_2.out.cel 3 _ rfl
            have Fl := F_2.out.lt
            go_wp2_with fail
            clear Pc0 Pc1 Pc2 Pc3 Pl
            clear Fc0 Fc1 Fc2 Fc3 Fl
            refine (HF2.out a7 c7 _ M_2.out).mono ?_
            rintro e u3 ⟨rfl, k3⟩
            have P_3 := hidP (P_2.out.later k3)
            have F_3 := hidP (F_2.out.later k3)
            have R_3 := hidP (R_2.out.later k3)
            have M_3 := hidP (M_2.out.later k3)
            have A_3 := hidP (A_2.out.trans (k3.mono A_2.out.size))
            clear k3 P_2 F_2 R_2 M_2 A_2
            cases zs2 with
            | nil =>
              clear M_3
              unfold frsV
              dsimp only
              have Pc0 := P_3.out.cel 0 _ rfl
              have Pc1 := P_3.out.cel 1 _ rfl
              have Pc2 := P_3.out.cel 2 _ rfl
              have Pc3 := P_3.out.cel 3 _ rfl
              have Pl := P_3.out.lt
              have Fc0 := F_3.out.cel 0 _ rfl
              have Fc1 := F_3.out.cel 1 _ rfl
              have Fc2 := F_3.out.cel 2 _ rfl
              have Fc3 := F_3.out.cel 3 _ rfl
              have Fl := F_3.out.lt
              go_wp2_with fail
              clear Pc0 Pc1 Pc2 Pc3 Pl
              clear Fc0 Fc1 Fc2 Fc3 Fl
              have nb := hidP (BoF.new u3 [.bool false, .int .i64 0, .int .i64 0, .int .i64 0] 27)
              have kk := alloc_belowF u3 (.cells #[.bool false, .int .i64 0, .int .i64 0, .int .i64 0] 27)
              generalize hNW : u3.alloc (.cells #[.bool false, .int .i64 0, .int .i64 0, .int .i64 0] 27) = V3 at *
              clear hNW
              have P_4 := hidP (P_3.out.later kk)
              have F_4 := hidP (F_3.out.later kk)
              have R_4 := hidP (R_3.out.later kk)
              have A_4 := hidP (A_3.out.trans (kk.mono A_3.out.size))
              clear kk P_3 F_3 R_3 A_3
              have N_4 := nb
              clear nb
              generalize u3.heap.size = eN at *
              refine (HL.out b d _ (rowP_G R_4.out)).mono ?_
              rintro e u5 ⟨rfl, k5⟩
              have P_5 := hidP (P_4.out.later k5)
              have F_5 := hidP (F_4.out.later k5)
              have N_5 := hidP (N_4.out.later k5)
              have R_5 := hidP (R_4.out.later k5)
              have A_5 := hidP (A_4.out.trans (k5.mono A_4.out.size))
              clear k5 P_4 F_4 N_4 R_4 A_4
              have Pc0 := P_5.out.cel 0 _ rfl
              have Pc1 := P_5.out.cel 1 _ rfl
              have Pc2 := P_5.out.cel 2 _ rfl
              have Pc3 := P_5.out.cel 3 _ rfl
              have Pl := P_5.out.lt
              have Fc0 := F_5.out.cel 0 _ rfl
              have Fc1 := F_5.out.cel 1 _ rfl
              have Fc2 := F_5.out.cel 2 _ rfl
              have Fc3 := F_5.out.cel 3 _ rfl
              have Fl := F_5.out.lt
              have Nc0 := N_5.out.cel 0 _ rfl
              have Nc1 := N_5.out.cel 1 _ rfl
              have Nc2 := N_5.out.cel 2 _ rfl
              have Nc3 := N_5.out.cel 3 _ rfl
              have Nl := N_5.out.lt
              go_wp2_with fail
              clear Pc0 Pc1 Pc2 Pc3 Pl
              clear Fc0 Fc1 Fc2 Fc3 Fl
              clear Nc0 Nc1 Nc2 Nc3 Nl
              have nb := hidP (BoF.new u5 [.bool lg.s, .int .i64 lg.H.toInt, .int .i64 lg.L.toInt, .int .i64 lg.b] 27)
              have kk := alloc_belowF u5 (.cells #[.bool lg.s, .int .i64 lg.H.toInt, .int .i64 lg.L.toInt, .int .i64 lg.b] 27)
              generalize hNW : u5.alloc (.cells #[.bool lg.s, .int .i64 lg.H.toInt, .int .i64 lg.L.toInt, .int .i64 lg.b] 27) = V5 at *
              clear hNW
              have P_6 := hidP (P_5.out.later kk)
              have F_6 := hidP (F_5.out.later kk)
              have N_6 := hidP (N_5.out.later kk)
              have R_6 := hidP (R_5.out.later kk)
              have A_6 := hidP (A_5.out.trans (kk.mono A_5.out.size))
              clear kk P_5 F_5 N_5 R_5 A_5
              have G_6 := nb
              clear nb
              generalize u5.heap.size = eG at *
              refine (HWi.out _).mono ?_
              rintro e u7 ⟨rfl, k7⟩
              have P_7 := hidP (P_6.out.later k7)
              have F_7 := hidP (F_6.out.later k7)
              have N_7 := hidP (N_6.out.later k7)
              have G_7 := hidP (G_6.out.later k7)
              have R_7 := hidP (R_6.out.later k7)
              have A_7 := hidP (A_6.out.trans (k7.mono A_6.out.size))
              clear k7 P_6 F_6 N_6 G_6 R_6 A_6
              have Pc0 := P_7.out.cel 0 _ rfl
              have Pc1 := P_7.out.cel 1 _ rfl
              have Pc2 := P_7.out.cel 2 _ rfl
              have Pc3 := P_7.out.cel 3 _ rfl
              have Pl := P_7.out.lt
              have Fc0 := F_7.out.cel 0 _ rfl
              have Fc1 := F_7.out.cel 1 _ rfl
              have Fc2 := F_7.out.cel 2 _ rfl
              have Fc3 := F_7.out.cel 3 _ rfl
              have Fl := F_7.out.lt
              have Nc0 := N_7.out.cel 0 _ rfl
              have Nc1 := N_7.out.cel 1 _ rfl
              have Nc2 := N_7.out.cel 2 _ rfl
              have Nc3 := N_7.out.cel 3 _ rfl
              have Nl := N_7.out.lt
              have Gc0 := G_7.out.cel 0 _ rfl
              have Gc1 := G_7.out.cel 1 _ rfl
              have Gc2 := G_7.out.cel 2 _ rfl
              have Gc3 := G_7.out.cel 3 _ rfl
              have Gl := G_7.out.lt
              cases h62 : (cn == 4611686018427387904)
              · have hmn : (cm == cn - 1) = true := by rw [h62, Bool.false_or] at hcm; exact hcm
                go_wp2_with fail
                go_ret
                exact ⟨rfl, A_7.out⟩
              · go_wp2_with fail
                go_ret
                exact ⟨rfl, A_7.out⟩
            | cons z2 r2 =>
              have HCp := hidP (HNx.out z2 r2 rfl)
              unfold PG at HCp
              clear M_3
              unfold frsV
              dsimp only
              have Pc0 := P_3.out.cel 0 _ rfl
              have Pc1 := P_3.out.cel 1 _ rfl
              have Pc2 := P_3.out.cel 2 _ rfl
              have Pc3 := P_3.out.cel 3 _ rfl
              have Pl := P_3.out.lt
              have Fc0 := F_3.out.cel 0 _ rfl
              have Fc1 := F_3.out.cel 1 _ rfl
              have Fc2 := F_3.out.cel 2 _ rfl
              have Fc3 := F_3.out.cel 3 _ rfl
              have Fl := F_3.out.lt
              go_wp2_with fail
              clear Pc0 Pc1 Pc2 Pc3 Pl
              clear Fc0 Fc1 Fc2 Fc3 Fl
              have nb := hidP (BoF.new u3 [.bool z2.s, .int .i64 z2.H.toInt, .int .i64 z2.L.toInt, .int .i64 z] 27)
              have kk := alloc_belowF u3 (.cells #[.bool z2.s, .int .i64 z2.H.toInt, .int .i64 z2.L.toInt, .int .i64 z] 27)
              generalize hNW : u3.alloc (.cells #[.bool z2.s, .int .i64 z2.H.toInt, .int .i64 z2.L.toInt, .int .i64 z] 27) = V3 at *
              clear hNW
              have P_4 := hidP (P_3.out.later kk)
              have F_4 := hidP (F_3.out.later kk)
              have R_4 := hidP (R_3.out.later kk)
              have A_4 := hidP (A_3.out.trans (kk.mono A_3.out.size))
              clear kk P_3 F_3 R_3 A_3
              have N_4 := nb
              clear nb
              generalize u3.heap.size = eN at *
              refine (HL.out b d _ (rowP_G R_4.out)).mono ?_
              rintro e u5 ⟨rfl, k5⟩
              have P_5 := hidP (P_4.out.later k5)
              have F_5 := hidP (F_4.out.later k5)
              have N_5 := hidP (N_4.out.later k5)
              have R_5 := hidP (R_4.out.later k5)
              have A_5 := hidP (A_4.out.trans (k5.mono A_4.out.size))
              clear k5 P_4 F_4 N_4 R_4 A_4
              have Pc0 := P_5.out.cel 0 _ rfl
              have Pc1 := P_5.out.cel 1 _ rfl
              have Pc2 := P_5.out.cel 2 _ rfl
              have Pc3 := P_5.out.cel 3 _ rfl
              have Pl := P_5.out.lt
              have Fc0 := F_5.out.cel 0 _ rfl
              have Fc1 := F_5.out.cel 1 _ rfl
              have Fc2 := F_5.out.cel 2 _ rfl
              have Fc3 := F_5.out.cel 3 _ rfl
              have Fl := F_5.out.lt
              have Nc0 := N_5.out.cel 0 _ rfl
              have Nc1 := N_5.out.cel 1 _ rfl
              have Nc2 := N_5.out.cel 2 _ rfl
              have Nc3 := N_5.out.cel 3 _ rfl
              have Nl := N_5.out.lt
              go_wp2_with fail
              clear Pc0 Pc1 Pc2 Pc3 Pl
              clear Fc0 Fc1 Fc2 Fc3 Fl
              clear Nc0 Nc1 Nc2 Nc3 Nl
              have nb := hidP (BoF.new u5 [.bool lg.s, .int .i64 lg.H.toInt, .int .i64 lg.L.toInt, .int .i64 lg.b] 27)
              have kk := alloc_belowF u5 (.cells #[.bool lg.s, .int .i64 lg.H.toInt, .int .i64 lg.L.toInt, .int .i64 lg.b] 27)
              generalize hNW : u5.alloc (.cells #[.bool lg.s, .int .i64 lg.H.toInt, .int .i64 lg.L.toInt, .int .i64 lg.b] 27) = V5 at *
              clear hNW
              have P_6 := hidP (P_5.out.later kk)
              have F_6 := hidP (F_5.out.later kk)
              have N_6 := hidP (N_5.out.later kk)
              have R_6 := hidP (R_5.out.later kk)
              have A_6 := hidP (A_5.out.trans (kk.mono A_5.out.size))
              clear kk P_5 F_5 N_5 R_5 A_5
              have G_6 := nb
              clear nb
              generalize u5.heap.size = eG at *
              refine (HWi.out _).mono ?_
              rintro e u7 ⟨rfl, k7⟩
              have P_7 := hidP (P_6.out.later k7)
              have F_7 := hidP (F_6.out.later k7)
              have N_7 := hidP (N_6.out.later k7)
              have G_7 := hidP (G_6.out.later k7)
              have R_7 := hidP (R_6.out.later k7)
              have A_7 := hidP (A_6.out.trans (k7.mono A_6.out.size))
              clear k7 P_6 F_6 N_6 G_6 R_6 A_6
              have Pc0 := P_7.out.cel 0 _ rfl
              have Pc1 := P_7.out.cel 1 _ rfl
              have Pc2 := P_7.out.cel 2 _ rfl
              have Pc3 := P_7.out.cel 3 _ rfl
              have Pl := P_7.out.lt
              have Fc0 := F_7.out.cel 0 _ rfl
              have Fc1 := F_7.out.cel 1 _ rfl
              have Fc2 := F_7.out.cel 2 _ rfl
              have Fc3 := F_7.out.cel 3 _ rfl
              have Fl := F_7.out.lt
              have Nc0 := N_7.out.cel 0 _ rfl
              have Nc1 := N_7.out.cel 1 _ rfl
              have Nc2 := N_7.out.cel 2 _ rfl
              have Nc3 := N_7.out.cel 3 _ rfl
              have Nl := N_7.out.lt
              have Gc0 := G_7.out.cel 0 _ rfl
              have Gc1 := G_7.out.cel 1 _ rfl
              have Gc2 := G_7.out.cel 2 _ rfl
              have Gc3 := G_7.out.cel 3 _ rfl
              have Gl := G_7.out.lt
              cases h62 : (cn == 4611686018427387904)
              · have hmn : (cm == cn - 1) = true := by rw [h62, Bool.false_or] at hcm; exact hcm
                go_wp2_with fail
                clear Pc0 Pc1 Pc2 Pc3 Pl
                clear Fc0 Fc1 Fc2 Fc3 Fl
                clear Nc0 Nc1 Nc2 Nc3 Nl
                clear Gc0 Gc1 Gc2 Gc3 Gl
                refine (HCp.out _).mono ?_
                rintro e u8 ⟨rfl, k8⟩
                have P_8 := hidP (P_7.out.later k8)
                have F_8 := hidP (F_7.out.later k8)
                have N_8 := hidP (N_7.out.later k8)
                have G_8 := hidP (G_7.out.later k8)
                have R_8 := hidP (R_7.out.later k8)
                have A_8 := hidP (A_7.out.trans (k8.mono A_7.out.size))
                clear k8 P_7 F_7 N_7 G_7 R_7 A_7
                have Pc0 := P_8.out.cel 0 _ rfl
                have Pc1 := P_8.out.cel 1 _ rfl
                have Pc2 := P_8.out.cel 2 _ rfl
                have Pc3 := P_8.out.cel 3 _ rfl
                have Pl := P_8.out.lt
                have Fc0 := F_8.out.cel 0 _ rfl
                have Fc1 := F_8.out.cel 1 _ rfl
                have Fc2 := F_8.out.cel 2 _ rfl
                have Fc3 := F_8.out.cel 3 _ rfl
                have Fl := F_8.out.lt
                have Nc0 := N_8.out.cel 0 _ rfl
                have Nc1 := N_8.out.cel 1 _ rfl
                have Nc2 := N_8.out.cel 2 _ rfl
                have Nc3 := N_8.out.cel 3 _ rfl
                have Nl := N_8.out.lt
                have Gc0 := G_8.out.cel 0 _ rfl
                have Gc1 := G_8.out.cel 1 _ rfl
                have Gc2 := G_8.out.cel 2 _ rfl
                have Gc3 := G_8.out.cel 3 _ rfl
                have Gl := G_8.out.lt
                go_wp2_with fail
                go_ret
                exact ⟨rfl, A_8.out⟩
              · go_wp2_with fail
                clear Pc0 Pc1 Pc2 Pc3 Pl
                clear Fc0 Fc1 Fc2 Fc3 Fl
                clear Nc0 Nc1 Nc2 Nc3 Nl
                clear Gc0 Gc1 Gc2 Gc3 Gl
                refine (HCp.out _).mono ?_
                rintro e u8 ⟨rfl, k8⟩
                have P_8 := hidP (P_7.out.later k8)
                have F_8 := hidP (F_7.out.later k8)
                have N_8 := hidP (N_7.out.later k8)
                have G_8 := hidP (G_7.out.later k8)
                have R_8 := hidP (R_7.out.later k8)
                have A_8 := hidP (A_7.out.trans (k8.mono A_7.out.size))
                clear k8 P_7 F_7 N_7 G_7 R_7 A_7
                have Pc0 := P_8.out.cel 0 _ rfl
                have Pc1 := P_8.out.cel 1 _ rfl
                have Pc2 := P_8.out.cel 2 _ rfl
                have Pc3 := P_8.out.cel 3 _ rfl
                have Pl := P_8.out.lt
                have Fc0 := F_8.out.cel 0 _ rfl
                have Fc1 := F_8.out.cel 1 _ rfl
                have Fc2 := F_8.out.cel 2 _ rfl
                have Fc3 := F_8.out.cel 3 _ rfl
                have Fl := F_8.out.lt
                have Nc0 := N_8.out.cel 0 _ rfl
                have Nc1 := N_8.out.cel 1 _ rfl
                have Nc2 := N_8.out.cel 2 _ rfl
                have Nc3 := N_8.out.cel 3 _ rfl
                have Nl := N_8.out.lt
                have Gc0 := G_8.out.cel 0 _ rfl
                have Gc1 := G_8.out.cel 1 _ rfl
                have Gc2 := G_8.out.cel 2 _ rfl
                have Gc3 := G_8.out.cel 3 _ rfl
                have Gl := G_8.out.lt
                go_wp2_with fail
                go_ret
                exact ⟨rfl, A_8.out⟩
        · go_simp
          have ab := alloc_belowF D (.cells #[.bool zz.s, .int .i64 zz.H.toInt, .int .i64 zz.L.toInt, .int .i64 z] 27)
          have K8 := hidP (KD.out.trans (ab.mono sD))
          have R8 := hidP (RD.out.later ab)
          have Q8 : Hid (OwnG KPq 27 (D.alloc (.cells #[.bool zz.s, .int .i64 zz.H.toInt, .int .i64 zz.L.toInt, .int .i64 z] 27)) v.heap.size (.slice (some ⟨D.heap.size, 0, none⟩) 1 1) [(⟨zz.s, zz.H, zz.L, z⟩ : Pf)]) := hidP (own_oneG KPq D v.heap.size 27 (⟨zz.s, zz.H, zz.L, z⟩ : Pf) sD)
          have s8 : v.heap.size ≤ (D.alloc (.cells #[.bool zz.s, .int .i64 zz.H.toInt, .int .i64 zz.L.toInt, .int .i64 z] 27)).heap.size := Nat.le_trans sD ab.size
          clear ab
          generalize D.alloc (.cells #[.bool zz.s, .int .i64 zz.H.toInt, .int .i64 zz.L.toInt, .int .i64 z] 27) = x8 at *
          generalize D.heap.size = g8 at *
          refine hK.out _ _ ?_ (fun hHeld => ?_)
          · try dsimp only
            exact HSx.out _ K8.out
          clear hK K
          refine wpAnyH_ready (rs := [0]) (by kernel_rfl) (by simp) ?_
          refine AllReadyH.cons rfl (fun K hK => ?_) AllReadyH.nil
          go_simp
          have ab := alloc_belowF x8 (.cells #[] 27)
          have K9 := hidP (K8.out.trans (ab.mono s8))
          have R9 := hidP (R8.out.later ab)
          have Q9 := hidP (Q8.out.later ab)
          have O9 := hidP (own_zeroG KPq x8 v.heap.size 27 s8)
          have N9 : Hid (x8.heap.size ≠ g8) := hidP (by have := (OwnG.lt Q8.out g8 rfl).2; omega)
          have s9 : v.heap.size ≤ (x8.alloc (.cells #[] 27)).heap.size := Nat.le_trans s8 ab.size
          clear ab
          generalize x8.alloc (.cells #[] 27) = x9 at *
          generalize x8.heap.size = g9 at *
          refine hK.out _ _ ?_ (fun hHeld => ?_)
          · try dsimp only
            exact HSx.out _ K9.out
          clear hK K
          refine wpAnyH_ready (rs := [2]) (by kernel_rfl) (by simp) ?_
          refine AllReadyH.cons rfl (fun K hK => ?_) AllReadyH.nil
          refine step_appG Try.tyPq _ rfl (.tmp 67) (.tmp 68) 28 rfl v.heap.size (some ⟨g9, 0, none⟩) 0 0 N [] us _ rfl rfl HN.out.symm O9.out rfl (src_rowG (K := KPq) Try.underlying28 N d (by decide) HN.out.symm R9.out HCap.out) (by omega) s9 ?_
          intro a10 c10 x10 o10 r10 h10
          have K10 := hidP (below_appG K9.out O9.out s9 r10)
          have s10 : v.heap.size ≤ x10.heap.size := Nat.le_trans s9 r10.size
          have Q10 := hidP (OwnG.grown Q9.out r10 (fun j hj e => by have h5 := N9.out; simp [Value.ownBlock] at hj e; omega))
          rw [List.nil_append] at o10
          have O10 := hidP o10
          clear o10 r10 h10
          refine hK.out _ _ ?_ (fun hHeld => ?_)
          · try dsimp only
            exact HSx.out _ K10.out
          clear hK K
          try simp only [pa]
          rw [Nat.zero_add] at *
          refine wpAnyH_ready (rs := [5]) (by kernel_rfl) (by simp) ?_
          refine AllReadyH.cons rfl (fun K hK => ?_) AllReadyH.nil
          refine step_appG Try.tyPq _ rfl (.tmp 69) (.tmp 71) 28 rfl v.heap.size _ N _ 1 us [(⟨zz.s, zz.H, zz.L, z⟩ : Pf)] _ rfl HN.out.symm rfl O10.out rfl (src_rowG (K := KPq) Try.underlying28 1 1 (by decide) rfl (OwnG.row Q10.out) (fun h => by cases h)) (by omega) s10 ?_
          intro a11 c11 x11 o11 r11 h11
          have K11 := hidP (below_appG K10.out O10.out s10 r11)
          have s11 : v.heap.size ≤ x11.heap.size := Nat.le_trans s10 r11.size
          have O11 := hidP o11
          clear o11 r11 h11
          refine hK.out _ _ ?_ (fun hHeld => ?_)
          · try dsimp only
            exact HSx.out _ K11.out
          clear hK K
          try simp only [pa]
          refine tk 6 12 rfl ?_
          simp only [pa]
          refine wpAnyH_done (by kernel_rfl) ?_ _
          clear hHeld HSx
          have M_1 := hidP (rowP_G (OwnG.row O11.out))
          have P_1 := hidP (Pv.out.later K11.out)
          have F_1 := hidP (Fv.out.later K11.out)
          have R_1 := hidP (Rv.out.later K11.out)
          have A_1 := hidP (Av.out.trans (K11.out.mono Av.out.size))
          clear K11 Pv Fv Rv Av y0 y1 y2 y3 yl O11 Q10
          have Pc0 := P_1.out.cel 0 _ rfl
          have Pc1 := P_1.out.cel 1 _ rfl
          have Pc2 := P_1.out.cel 2 _ rfl
          have Pc3 := P_1.out.cel 3 _ rfl
          have Pl := P_1.out.lt
          have Fc0 := F_1.out.cel 0 _ rfl
          have Fc1 := F_1.out.cel 1 _ rfl
          have Fc2 := F_1.out.cel 2 _ rfl
          have Fc3 := F_1.out.cel 3 _ rfl
          have Fl := F_1.out.lt
          go_wp2_with fail
          clear Pc0 Pc1 Pc2 Pc3 Pl
          clear Fc0 Fc1 Fc2 Fc3 Fl
          refine (HC2.out a11 c11 _ M_1.out).mono ?_
          rintro e u2 ⟨rfl, k2⟩
          have P_2 := hidP (P_1.out.later k2)
          have F_2 := hidP (F_1.out.later k2)
          have R_2 := hidP (R_1.out.later k2)
          have M_2 := hidP (M_1.out.later k2)
          have A_2 := hidP (A_1.out.trans (k2.mono A_1.out.size))
          clear k2 P_1 F_1 R_1 M_1 A_1
          have Pc0 := P_2.out.cel 0 _ rfl
          have Pc1 := P_2.out.cel 1 _ rfl
          have Pc2 := P_2.out.cel 2 _ rfl
          have Pc3 := P_2.out.cel 3 _ rfl
          have Pl := P_2.out.lt
          have Fc0 := F_2.out.cel 0 _ rfl
          have Fc1 := F_2.out.cel 1 _ rfl
          have Fc2 := F_2.out.cel 2 _ rfl
          have Fc3 := F_2.out.cel 3 _ rfl
          have Fl := F_2.out.lt
          go_wp2_with fail
          clear Pc0 Pc1 Pc2 Pc3 Pl
          clear Fc0 Fc1 Fc2 Fc3 Fl
          refine (HF2.out a11 c11 _ M_2.out).mono ?_
          rintro e u3 ⟨rfl, k3⟩
          have P_3 := hidP (P_2.out.later k3)
          have F_3 := hidP (F_2.out.later k3)
          have R_3 := hidP (R_2.out.later k3)
          have M_3 := hidP (M_2.out.later k3)
          have A_3 := hidP (A_2.out.trans (k3.mono A_2.out.size))
          clear k3 P_2 F_2 R_2 M_2 A_2
          cases zs2 with
          | nil =>
            clear M_3
            unfold frsV
            dsimp only
            have Pc0 := P_3.out.cel 0 _ rfl
            have Pc1 := P_3.out.cel 1 _ rfl
            have Pc2 := P_3.out.cel 2 _ rfl
            have Pc3 := P_3.out.cel 3 _ rfl
            have Pl := P_3.out.lt
            have Fc0 := F_3.out.cel 0 _ rfl
            have Fc1 := F_3.out.cel 1 _ rfl
            have Fc2 := F_3.out.cel 2 _ rfl
            have Fc3 := F_3.out.cel 3 _ rfl
            have Fl := F_3.out.lt
            go_wp2_with fail
            clear Pc0 Pc1 Pc2 Pc3 Pl
            clear Fc0 Fc1 Fc2 Fc3 Fl
            have nb := hidP (BoF.new u3 [.bool false, .int .i64 0, .int .i64 0, .int .i64 0] 27)
            have kk := alloc_belowF u3 (.cells #[.bool false, .int .i64 0, .int .i64 0, .int .i64 0] 27)
            generalize hNW : u3.alloc (.cells #[.bool false, .int .i64 0, .int .i64 0, .int .i64 0] 27) = V3 at *
            clear hNW
            have P_4 := hidP (P_3.out.later kk)
            have F_4 := hidP (F_3.out.later kk)
            have R_4 := hidP (R_3.out.later kk)
            have A_4 := hidP (A_3.out.trans (kk.mono A_3.out.size))
            clear kk P_3 F_3 R_3 A_3
            have N_4 := nb
            clear nb
            generalize u3.heap.size = eN at *
            refine (HL.out b d _ (rowP_G R_4.out)).mono ?_
            rintro e u5 ⟨rfl, k5⟩
            have P_5 := hidP (P_4.out.later k5)
            have F_5 := hidP (F_4.out.later k5)
            have N_5 := hidP (N_4.out.later k5)
            have R_5 := hidP (R_4.out.later k5)
            have A_5 := hidP (A_4.out.trans (k5.mono A_4.out.size))
            clear k5 P_4 F_4 N_4 R_4 A_4
            have Pc0 := P_5.out.cel 0 _ rfl
            have Pc1 := P_5.out.cel 1 _ rfl
            have Pc2 := P_5.out.cel 2 _ rfl
            have Pc3 := P_5.out.cel 3 _ rfl
            have Pl := P_5.out.lt
            have Fc0 := F_5.out.cel 0 _ rfl
            have Fc1 := F_5.out.cel 1 _ rfl
            have Fc2 := F_5.out.cel 2 _ rfl
            have Fc3 := F_5.out.cel 3 _ rfl
            have Fl := F_5.out.lt
            have Nc0 := N_5.out.cel 0 _ rfl
            have Nc1 := N_5.out.cel 1 _ rfl
            have Nc2 := N_5.out.cel 2 _ rfl
            have Nc3 := N_5.out.cel 3 _ rfl
            have Nl := N_5.out.lt
            go_wp2_with fail
            clear Pc0 Pc1 Pc2 Pc3 Pl
            clear Fc0 Fc1 Fc2 Fc3 Fl
            clear Nc0 Nc1 Nc2 Nc3 Nl
            have nb := hidP (BoF.new u5 [.bool lg.s, .int .i64 lg.H.toInt, .int .i64 lg.L.toInt, .int .i64 lg.b] 27)
            have kk := alloc_belowF u5 (.cells #[.bool lg.s, .int .i64 lg.H.toInt, .int .i64 lg.L.toInt, .int .i64 lg.b] 27)
            generalize hNW : u5.alloc (.cells #[.bool lg.s, .int .i64 lg.H.toInt, .int .i64 lg.L.toInt, .int .i64 lg.b] 27) = V5 at *
            clear hNW
            have P_6 := hidP (P_5.out.later kk)
            have F_6 := hidP (F_5.out.later kk)
            have N_6 := hidP (N_5.out.later kk)
            have R_6 := hidP (R_5.out.later kk)
            have A_6 := hidP (A_5.out.trans (kk.mono A_5.out.size))
            clear kk P_5 F_5 N_5 R_5 A_5
            have G_6 := nb
            clear nb
            generalize u5.heap.size = eG at *
            refine (HWi.out _).mono ?_
            rintro e u7 ⟨rfl, k7⟩
            have P_7 := hidP (P_6.out.later k7)
            have F_7 := hidP (F_6.out.later k7)
            have N_7 := hidP (N_6.out.later k7)
            have G_7 := hidP (G_6.out.later k7)
            have R_7 := hidP (R_6.out.later k7)
            have A_7 := hidP (A_6.out.trans (k7.mono A_6.out.size))
            clear k7 P_6 F_6 N_6 G_6 R_6 A_6
            have Pc0 := P_7.out.cel 0 _ rfl
            have Pc1 := P_7.out.cel 1 _ rfl
            have Pc2 := P_7.out.cel 2 _ rfl
            have Pc3 := P_7.out.cel 3 _ rfl
            have Pl := P_7.out.lt
            have Fc0 := F_7.out.cel 0 _ rfl
            have Fc1 := F_7.out.cel 1 _ rfl
            have Fc2 := F_7.out.cel 2 _ rfl
            have Fc3 := F_7.out.cel 3 _ rfl
            have Fl := F_7.out.lt
            have Nc0 := N_7.out.cel 0 _ rfl
            have Nc1 := N_7.out.cel 1 _ rfl
            have Nc2 := N_7.out.cel 2 _ rfl
            have Nc3 := N_7.out.cel 3 _ rfl
            have Nl := N_7.out.lt
            have Gc0 := G_7.out.cel 0 _ rfl
            have Gc1 := G_7.out.cel 1 _ rfl
            have Gc2 := G_7.out.cel 2 _ rfl
            have Gc3 := G_7.out.cel 3 _ rfl
            have Gl := G_7.out.lt
            cases h62 : (cn == 4611686018427387904)
            · have hmn : (cm == cn - 1) = true := by rw [h62, Bool.false_or] at hcm; exact hcm
              go_wp2_with fail
              go_ret
              exact ⟨rfl, A_7.out⟩
            · go_wp2_with fail
              go_ret
              exact ⟨rfl, A_7.out⟩
          | cons z2 r2 =>
            have HCp := hidP (HNx.out z2 r2 rfl)
            unfold PG at HCp
            clear M_3
            unfold frsV
            dsimp only
            have Pc0 := P_3.out.cel 0 _ rfl
            have Pc1 := P_3.out.cel 1 _ rfl
            have Pc2 := P_3.out.cel 2 _ rfl
            have Pc3 := P_3.out.cel 3 _ rfl
            have Pl := P_3.out.lt
            have Fc0 := F_3.out.cel 0 _ rfl
            have Fc1 := F_3.out.cel 1 _ rfl
            have Fc2 := F_3.out.cel 2 _ rfl
            have Fc3 := F_3.out.cel 3 _ rfl
            have Fl := F_3.out.lt
            go_wp2_with fail
            clear Pc0 Pc1 Pc2 Pc3 Pl
            clear Fc0 Fc1 Fc2 Fc3 Fl
            have nb := hidP (BoF.new u3 [.bool z2.s, .int .i64 z2.H.toInt, .int .i64 z2.L.toInt, .int .i64 z] 27)
            have kk := alloc_belowF u3 (.cells #[.bool z2.s, .int .i64 z2.H.toInt, .int .i64 z2.L.toInt, .int .i64 z] 27)
            generalize hNW : u3.alloc (.cells #[.bool z2.s, .int .i64 z2.H.toInt, .int .i64 z2.L.toInt, .int .i64 z] 27) = V3 at *
            clear hNW
            have P_4 := hidP (P_3.out.later kk)
            have F_4 := hidP (F_3.out.later kk)
            have R_4 := hidP (R_3.out.later kk)
            have A_4 := hidP (A_3.out.trans (kk.mono A_3.out.size))
            clear kk P_3 F_3 R_3 A_3
            have N_4 := nb
            clear nb
            generalize u3.heap.size = eN at *
            refine (HL.out b d _ (rowP_G R_4.out)).mono ?_
            rintro e u5 ⟨rfl, k5⟩
            have P_5 := hidP (P_4.out.later k5)
            have F_5 := hidP (F_4.out.later k5)
            have N_5 := hidP (N_4.out.later k5)
            have R_5 := hidP (R_4.out.later k5)
            have A_5 := hidP (A_4.out.trans (k5.mono A_4.out.size))
            clear k5 P_4 F_4 N_4 R_4 A_4
            have Pc0 := P_5.out.cel 0 _ rfl
            have Pc1 := P_5.out.cel 1 _ rfl
            have Pc2 := P_5.out.cel 2 _ rfl
            have Pc3 := P_5.out.cel 3 _ rfl
            have Pl := P_5.out.lt
            have Fc0 := F_5.out.cel 0 _ rfl
            have Fc1 := F_5.out.cel 1 _ rfl
            have Fc2 := F_5.out.cel 2 _ rfl
            have Fc3 := F_5.out.cel 3 _ rfl
            have Fl := F_5.out.lt
            have Nc0 := N_5.out.cel 0 _ rfl
            have Nc1 := N_5.out.cel 1 _ rfl
            have Nc2 := N_5.out.cel 2 _ rfl
            have Nc3 := N_5.out.cel 3 _ rfl
            have Nl := N_5.out.lt
            go_wp2_with fail
            clear Pc0 Pc1 Pc2 Pc3 Pl
            clear Fc0 Fc1 Fc2 Fc3 Fl
            clear Nc0 Nc1 Nc2 Nc3 Nl
            have nb := hidP (BoF.new u5 [.bool lg.s, .int .i64 lg.H.toInt, .int .i64 lg.L.toInt, .int .i64 lg.b] 27)
            have kk := alloc_belowF u5 (.cells #[.bool lg.s, .int .i64 lg.H.toInt, .int .i64 lg.L.toInt, .int .i64 lg.b] 27)
            generalize hNW : u5.alloc (.cells #[.bool lg.s, .int .i64 lg.H.toInt, .int .i64 lg.L.toInt, .int .i64 lg.b] 27) = V5 at *
            clear hNW
            have P_6 := hidP (P_5.out.later kk)
            have F_6 := hidP (F_5.out.later kk)
            have N_6 := hidP (N_5.out.later kk)
            have R_6 := hidP (R_5.out.later kk)
            have A_6 := hidP (A_5.out.trans (kk.mono A_5.out.size))
            clear kk P_5 F_5 N_5 R_5 A_5
            have G_6 := nb
            clear nb
            generalize u5.heap.size = eG at *
            refine (HWi.out _).mono ?_
            rintro e u7 ⟨rfl, k7⟩
            have P_7 := hidP (P_6.out.later k7)
            have F_7 := hidP (F_6.out.later k7)
            have N_7 := hidP (N_6.out.later k7)
            have G_7 := hidP (G_6.out.later k7)
            have R_7 := hidP (R_6.out.later k7)
            have A_7 := hidP (A_6.out.trans (k7.mono A_6.out.size))
            clear k7 P_6 F_6 N_6 G_6 R_6 A_6
            have Pc0 := P_7.out.cel 0 _ rfl
            have Pc1 := P_7.out.cel 1 _ rfl
            have Pc2 := P_7.out.cel 2 _ rfl
            have Pc3 := P_7.out.cel 3 _ rfl
            have Pl := P_7.out.lt
            have Fc0 := F_7.out.cel 0 _ rfl
            have Fc1 := F_7.out.cel 1 _ rfl
            have Fc2 := F_7.out.cel 2 _ rfl
            have Fc3 := F_7.out.cel 3 _ rfl
            have Fl := F_7.out.lt
            have Nc0 := N_7.out.cel 0 _ rfl
            have Nc1 := N_7.out.cel 1 _ rfl
            have Nc2 := N_7.out.cel 2 _ rfl
            have Nc3 := N_7.out.cel 3 _ rfl
            have Nl := N_7.out.lt
            have Gc0 := G_7.out.cel 0 _ rfl
            have Gc1 := G_7.out.cel 1 _ rfl
            have Gc2 := G_7.out.cel 2 _ rfl
            have Gc3 := G_7.out.cel 3 _ rfl
            have Gl := G_7.out.lt
            cases h62 : (cn == 4611686018427387904)
            · have hmn : (cm == cn - 1) = true := by rw [h62, Bool.false_or] at hcm; exact hcm
              go_wp2_with fail
              clear Pc0 Pc1 Pc2 Pc3 Pl
              clear Fc0 Fc1 Fc2 Fc3 Fl
              clear Nc0 Nc1 Nc2 Nc3 Nl
              clear Gc0 Gc1 Gc2 Gc3 Gl
              refine (HCp.out _).mono ?_
              rintro e u8 ⟨rfl, k8⟩
              have P_8 := hidP (P_7.out.later k8)
              have F_8 := hidP (F_7.out.later k8)
              have N_8 := hidP (N_7.out.later k8)
              have G_8 := hidP (G_7.out.later k8)
              have R_8 := hidP (R_7.out.later k8)
              have A_8 := hidP (A_7.out.trans (k8.mono A_7.out.size))
              clear k8 P_7 F_7 N_7 G_7 R_7 A_7
              have Pc0 := P_8.out.cel 0 _ rfl
              have Pc1 := P_8.out.cel 1 _ rfl
              have Pc2 := P_8.out.cel 2 _ rfl
              have Pc3 := P_8.out.cel 3 _ rfl
              have Pl := P_8.out.lt
              have Fc0 := F_8.out.cel 0 _ rfl
              have Fc1 := F_8.out.cel 1 _ rfl
              have Fc2 := F_8.out.cel 2 _ rfl
              have Fc3 := F_8.out.cel 3 _ rfl
              have Fl := F_8.out.lt
              have Nc0 := N_8.out.cel 0 _ rfl
              have Nc1 := N_8.out.cel 1 _ rfl
              have Nc2 := N_8.out.cel 2 _ rfl
              have Nc3 := N_8.out.cel 3 _ rfl
              have Nl := N_8.out.lt
              have Gc0 := G_8.out.cel 0 _ rfl
              have Gc1 := G_8.out.cel 1 _ rfl
              have Gc2 := G_8.out.cel 2 _ rfl
              have Gc3 := G_8.out.cel 3 _ rfl
              have Gl := G_8.out.lt
              go_wp2_with fail
              go_ret
              exact ⟨rfl, A_8.out⟩
            · go_wp2_with fail
              clear Pc0 Pc1 Pc2 Pc3 Pl
              clear Fc0 Fc1 Fc2 Fc3 Fl
              clear Nc0 Nc1 Nc2 Nc3 Nl
              clear Gc0 Gc1 Gc2 Gc3 Gl
              refine (HCp.out _).mono ?_
              rintro e u8 ⟨rfl, k8⟩
              have P_8 := hidP (P_7.out.later k8)
              have F_8 := hidP (F_7.out.later k8)
              have N_8 := hidP (N_7.out.later k8)
              have G_8 := hidP (G_7.out.later k8)
              have R_8 := hidP (R_7.out.later k8)
              have A_8 := hidP (A_7.out.trans (k8.mono A_7.out.size))
              clear k8 P_7 F_7 N_7 G_7 R_7 A_7
              have Pc0 := P_8.out.cel 0 _ rfl
              have Pc1 := P_8.out.cel 1 _ rfl
              have Pc2 := P_8.out.cel 2 _ rfl
              have Pc3 := P_8.out.cel 3 _ rfl
              have Pl := P_8.out.lt
              have Fc0 := F_8.out.cel 0 _ rfl
              have Fc1 := F_8.out.cel 1 _ rfl
              have Fc2 := F_8.out.cel 2 _ rfl
              have Fc3 := F_8.out.cel 3 _ rfl
              have Fl := F_8.out.lt
              have Nc0 := N_8.out.cel 0 _ rfl
              have Nc1 := N_8.out.cel 1 _ rfl
              have Nc2 := N_8.out.cel 2 _ rfl
              have Nc3 := N_8.out.cel 3 _ rfl
              have Nl := N_8.out.lt
              have Gc0 := G_8.out.cel 0 _ rfl
              have Gc1 := G_8.out.cel 1 _ rfl
              have Gc2 := G_8.out.cel 2 _ rfl
              have Gc3 := G_8.out.cel 3 _ rfl
              have Gl := G_8.out.lt
              go_wp2_with fail
              go_ret
              exact ⟨rfl, A_8.out⟩

set_option maxHeartbeats 1000000 in
theorem lawFFd_all (a : Option Addr) (len cap : Nat) (w : World) (hB : Bytes w a len) :
    Calls Try.prog 3 #[.slice a len cap] w fun e w' => e = .returned (.bool true) ∧ Below w.heap.size w w' := by
  by_cases hl : len ≤ 1048576
  · exact lawFFd a len cap w hB hl
  · have hbig : ∀ wx : World, Calls Try.prog 4 #[.slice a len cap] wx fun e w' => e = .returned (.bool true) ∧ wx = w' := fun wx => by
      have d : decide ((1048576 : Int) < (len : Int)) = true := decide_eq_true (by omega)
      go_enter Try.func4, Try.ntmps4
      go_wp2
      go_ret
      exact ⟨rfl, rfl⟩
    have HG : Hid (∀ wx : World, _) := hbig
    clear hbig
    go_enter Try.func3, Try.ntmps3
    go_wp2_with fail
    refine (HG.out _).mono ?_
    rintro e w0 ⟨rfl, rfl⟩
    go_wp2_with fail
    go_ret
    exact ⟨rfl, Below.refl _ _⟩

theorem Try.ownFFd : ownKnob Try.prog.godebug = none := by kernel_rfl
theorem Try.laidOutFFd : laidOutB Try.prog = true := by kernel_rfl
theorem Try.cellsByte : Try.prog.cellsOf 5 = 1 := by kernel_rfl

/-- The code's bytes out of the reading of a row of bytes. -/
theorem bytes_open {H : Type} {enc : TypeId × Value → H} {W : World} {a : Option Addr} {len cap : Nat} {d : DataW H} {p : List MemPlace}
    (h : DataW.Trod enc Try.prog W 0 (fun _ => true) true 22 (.slice a len cap) d p) : Bytes W a len := by
  obtain ⟨fuel, hf⟩ := h
  rcases open_slice1 Try.underlying22 Try.cellsByte hf with ⟨hcs, _⟩ | ⟨a', len', cap', m, n, V, D, Pl, hcs, _, hl, _, hm, _, hV⟩
  · simp [Value.cells] at hcs
    obtain ⟨rfl, rfl, rfl⟩ := hcs
    exact fun j hj => absurd hj (Nat.not_lt_zero j)
  · simp [Value.cells] at hcs
    obtain ⟨rfl, rfl, rfl⟩ := hcs
    intro j hj
    simp at hm
    obtain ⟨hc, ht⟩ := hV j (by omega)
    obtain ⟨v, e, _, wv⟩ := DataW.trod_int Try.underlying5 ht
    simp at e
    rw [e] at hc
    have hb : 0 ≤ v ∧ v ≤ 255 := by simpa [Lit.wf, IntKind.min, IntKind.max, IntKind.signed, IntKind.bits] using wv
    obtain ⟨p', o', sp⟩ := a'
    cases sp with
    | some q =>
      exfalso
      have h0 := (hV 0 (by omega)).1
      rw [show Addr.add ⟨p', o', some q⟩ 0 = ⟨p', o', some q⟩ from rfl] at h0
      unfold World.cell? at h0
      split at h0
      · simp at h0
      · cases h0
    | none =>
      have hc' : W.cell? ⟨p', o' + j, none⟩ = some (.int .u8 v) := by
        cases j with
        | zero => simpa [Addr.add] using hc
        | succ i => simpa [Addr.add] using hc
      exact ⟨p', o', v, rfl, World.block_lt_of_cell? W _ hc', hc', hb.1, by omega⟩

set_option maxRecDepth 100000 in
theorem firstD_lifted (os : Os) (started : os.Started) (H : Type) (enc : TypeId × Value → H) :
    ReturnsInHanded {} Try.checked os 3 .any (Rows.fnFirstSpec.pre6 enc Try.prog Try.f3 Rows.fnFirstRow.domain false) (Rows.fnFirstSpec.post enc Try.prog Try.f3 false true false false) := by
  refine returnsInHanded_of_change (C := Try.checked) Try.ownFFd started (by kernel_rfl) Try.func3
    (ChangeSpec.witness6 (enc := enc) (C := Try.checked) false ⟨#[], #[.slice none 0 0], []⟩ 8 (by kernel_rfl) (by kernel_rfl) (by kernel_rfl) (by kernel_rfl)) ?_
  intro W base args ds gs before hval0 hW _ _
  have hval : ∀ (j : Nat) t v, Try.f3.params[j]? = some t → args[j]? = some v → Value.okWide Try.prog W .any base t v := hval0
  have hW' := hW
  obtain ⟨p, q, hA0, hV, rfl, _, _⟩ := hW
  have hA : DataW.TrodAll enc Try.prog W 0 (fun _ => true) true Try.f3.params.toList args.toList ds p := hA0
  rw [Try.params3] at hA hval
  obtain ⟨v0, d0, rfl, rfl, h0⟩ := trodAll_one hA
  obtain ⟨rfl, rfl⟩ := trodVars_none hV
  obtain ⟨a0, len, cap, rfl⟩ := okWide_slice Try.underlying22 (hval 0 22 v0 rfl rfl)
  clear hA0 hval0
  simp only [List.append_nil] at hW'
  have hlt : ∀ x ∈ p, x.block < W.heap.size := fun x hx => by simpa using hW'.lt x hx
  refine (lawFFd_all a0 len cap W (bytes_open h0)).mono fun e W' ⟨he, hb⟩ => ?_
  subst he
  exact ⟨_, rfl, ⟨_, _, _, [], p, [], hW', trodAll_mk1 (shut_bool Try.underlying4 true), trodAll_mk1 (Below.trod Try.laidOutFFd (by kernel_rfl) (of_decide_eq_true (by kernel_rfl)) h0 hb hlt), rfl, hb.frame _, fun h => by cases h⟩⟩

theorem firstD_holds : Rows.FnFirstSaid :=
  OpenClaim.holds_of_wide 3 Try.f3 rfl rfl rfl rfl rfl rfl rfl ⟨rfl, rfl, rfl, rfl, rfl⟩ rfl rfl rfl rfl rfl (by kernel_rfl) Try.func3 (by kernel_rfl)
    (of_decide_eq_true (by kernel_rfl)) (by unfold Func.isWrapper; rw [if_neg (of_decide_eq_false (by kernel_rfl))]; exact ⟨rfl, rfl⟩)
    (fun os started H enc _ => firstD_lifted os started H enc)

end Go.Proofs.Ytnlnigelecmobaa
