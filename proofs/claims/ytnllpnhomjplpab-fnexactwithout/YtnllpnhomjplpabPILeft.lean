/-
  The program's leftOf: what is left of a span goes behind a row of the call's own; nothing else that is old in memory turns.
-/
import Derived.Test.YtnllpnhomjplpabPSLeft
import Derived.Test.YtnllpnhomjplpabPSpan
import Derived.Test.YtnllpnhomjplpabBSpC
import Derived.Test.YtnllpnhomjplpabBSpH
import Derived.Deep.RegionHeld3
namespace Go.Proofs.Ytnllpnhomjplpab
open Go.RowKit

theorem Row.far {w w' : World} {a : Option Addr} {ps : List Pf} {r : Option Nat} (h : Row w a ps) (hg : w.grownBy w' r) (hne : ∀ p o, a = some ⟨p, o, none⟩ → r ≠ some p) : Row w' a ps := fun j hj => by
  obtain ⟨p, o, q, ha, hp, hq, c0, c1, c2, c3⟩ := h j hj
  have e : ∀ i, w'.cell? ⟨p, i, none⟩ = w.cell? ⟨p, i, none⟩ := fun i => World.cell?_of_block (hg.block p hp (fun h => hne p o ha h.symm))
  exact ⟨p, o, q, ha, Nat.lt_of_lt_of_le hp hg.size, hq, (e _).trans c0, (e _).trans c1, (e _).trans c2, (e _).trans c3⟩

theorem below_grown {w w' : World} (h : Below w.heap.size w w') (r : Option Nat) : w.grownBy w' r := ⟨h.os, h.tape, h.output, h.size, fun k hk _ => h.block k hk⟩
theorem wBi {x y : Sp} (hy : y.ok) (w : World) : Calls Try.prog 39 #[.agg #[.bool x.s, .int .i64 x.H.toInt, .int .i64 x.L.toInt, .int .i64 x.n], .agg #[.bool y.s, .int .i64 y.H.toInt, .int .i64 y.L.toInt, .int .i64 y.n]] w fun e w' => e = .returned (.bool (wB x y)) ∧ Below w.heap.size w w' := within_any x.s x.H x.L x.n y.s y.H y.L y.n hy.le w

def ILeft (k : Nat) : Prop := ∀ (x : Sp) (_ : x.ok) (_ : x.n = k) (xs : List Sp) (_ : ∀ t ∈ xs, t.ok) (_ : xs.length ≤ 300) (a : Option Addr) (cap : Nat) (w : World) (_ : Row w a (xs.map Sp.spn)) (B : Nat) (al : Option Addr) (cl nl : Nat) (ls : List Sp) (_ : nl = ls.length) (_ : OwnR 48 w B (.slice al nl cl) (ls.map Sp.spn)) (_ : nl + (leftM k x xs).length ≤ 100000) (_ : B ≤ w.heap.size) (_ : ∀ p o, a = some ⟨p, o, none⟩ → (Value.slice al nl cl).ownBlock ≠ some p),
  Calls Try.prog 29 #[.agg #[.bool x.s, .int .i64 x.H.toInt, .int .i64 x.L.toInt, .int .i64 (k : Int)], .slice a xs.length cap, .slice al nl cl] w fun e w' => ∃ a' c', e = .returned (.slice a' (nl + (leftM k x xs).length) c') ∧ OwnR 48 w' B (.slice a' (nl + (leftM k x xs).length) c') ((ls ++ (leftM k x xs)).map Sp.spn) ∧ w.grownBy w' (Value.slice al nl cl).ownBlock ∧ (a' = al ∨ ∃ g, a' = some ⟨g, 0, none⟩ ∧ w.heap.size ≤ g)

theorem lastg {W : World} {A B C D E F G H : Prop} {w' : World} {r : Option Nat} (c : A ∧ B ∧ C ∧ D ∧ E ∧ F ∧ G ∧ H ∧ W.grownBy w' r) : W.grownBy w' r := c.2.2.2.2.2.2.2.2
theorem grown_two {W w3 w4 : World} {r r3 : Option Nat} (h1 : W.grownBy w3 r) (h2 : w3.grownBy w4 r3) (h : r3 = r ∨ ∃ g, r3 = some g ∧ W.heap.size ≤ g) : W.grownBy w4 r :=
  ⟨h2.os.trans h1.os, h2.tape.trans h1.tape, h2.output.trans h1.output, Nat.le_trans h1.size h2.size, fun k hk hne => by
    refine (h2.block k (Nat.lt_of_lt_of_le hk h1.size) ?_).trans (h1.block k hk hne)
    rcases h with rfl | ⟨g, rfl, hg⟩
    · exact hne
    · intro e; cases e; omega⟩
theorem own_t3 {W wx : World} {a3 al : Option Addr} {m c nl cl : Nat} (t3 : a3 = al ∨ ∃ g, a3 = some ⟨g, 0, none⟩ ∧ wx.heap.size ≤ g) (hs : W.heap.size ≤ wx.heap.size) : (Value.slice a3 m c).ownBlock = (Value.slice al nl cl).ownBlock ∨ ∃ g, (Value.slice a3 m c).ownBlock = some g ∧ W.heap.size ≤ g := by
  rcases t3 with rfl | ⟨g, rfl, hg⟩
  · cases a3 <;> exact Or.inl rfl
  · exact Or.inr ⟨g, rfl, Nat.le_trans hs hg⟩
theorem own_d3 {W : World} {a7 : Option Addr} {v u : Value} (h : u.ownBlock = v.ownBlock ∨ ∃ g, u.ownBlock = some g ∧ W.heap.size ≤ g) (hd : ∀ p o, a7 = some ⟨p, o, none⟩ → v.ownBlock ≠ some p) (hn : ∀ p o, a7 = some ⟨p, o, none⟩ → p < W.heap.size) : ∀ p o, a7 = some ⟨p, o, none⟩ → u.ownBlock ≠ some p := fun p o ha e => by
  rcases h with h | ⟨g, h, hg⟩
  · exact hd p o ha (h ▸ e)
  · rw [h] at e; cases e; have := hn _ o ha; omega
theorem keep8g {W w' : World} {g h : Nat} {p q : Pf} {r : Option Nat} (hg : g < W.heap.size) (hh : h < W.heap.size) (rg : some g ≠ r) (rh : some h ≠ r) (c : W.cell? ⟨g, 0, none⟩ = some (.bool p.s) ∧ W.cell? ⟨g, 1, none⟩ = some (.int .i64 p.H.toInt) ∧ W.cell? ⟨g, 2, none⟩ = some (.int .i64 p.L.toInt) ∧ W.cell? ⟨g, 3, none⟩ = some (.int .i64 p.b) ∧ W.cell? ⟨h, 0, none⟩ = some (.bool q.s) ∧ W.cell? ⟨h, 1, none⟩ = some (.int .i64 q.H.toInt) ∧ W.cell? ⟨h, 2, none⟩ = some (.int .i64 q.L.toInt) ∧ W.cell? ⟨h, 3, none⟩ = some (.int .i64 q.b) ∧ W.grownBy W r) (b : W.grownBy w' r) : w'.cell? ⟨g, 0, none⟩ = some (.bool p.s) ∧ w'.cell? ⟨g, 1, none⟩ = some (.int .i64 p.H.toInt) ∧ w'.cell? ⟨g, 2, none⟩ = some (.int .i64 p.L.toInt) ∧ w'.cell? ⟨g, 3, none⟩ = some (.int .i64 p.b) ∧ w'.cell? ⟨h, 0, none⟩ = some (.bool q.s) ∧ w'.cell? ⟨h, 1, none⟩ = some (.int .i64 q.H.toInt) ∧ w'.cell? ⟨h, 2, none⟩ = some (.int .i64 q.L.toInt) ∧ w'.cell? ⟨h, 3, none⟩ = some (.int .i64 q.b) ∧ W.grownBy w' r :=
  have eg : ∀ i, w'.cell? ⟨g, i, none⟩ = W.cell? ⟨g, i, none⟩ := fun _ => World.cell?_of_block (b.block g hg rg)
  have eh : ∀ i, w'.cell? ⟨h, i, none⟩ = W.cell? ⟨h, i, none⟩ := fun _ => World.cell?_of_block (b.block h hh rh)
  ⟨(eg _).trans c.1, (eg _).trans c.2.1, (eg _).trans c.2.2.1, (eg _).trans c.2.2.2.1, (eh _).trans c.2.2.2.2.1, (eh _).trans c.2.2.2.2.2.1, (eh _).trans c.2.2.2.2.2.2.1, (eh _).trans c.2.2.2.2.2.2.2.1, b⟩

set_option maxRecDepth 10000 in
set_option maxHeartbeats 2000000 in
theorem leftOf_step (k : Nat) (IH : ∀ j, j < k → ILeft j) : ILeft k := by
  intro x hx hk xs hxs hl a cap w hR B al cl nl ls hnl hO hls hBw hdis
  have HB := hidP hR
  have HX := hidP hx
  have HXs := hidP hxs
  have HI := hidP IH
  have hk9 : k ≤ 128 := by have := hx.le; omega
  have HK := hidP hk
  have HOl := hidP hO
  have HDis := hidP hdis
  obtain ⟨n, hn⟩ : ∃ n, n = xs.length := ⟨_, rfl⟩
  rw [← hn] at hl ⊢
  have HN := hidP hn
  have HNl := hidP hnl
  have HLs := hidP hls
  clear hR hx hxs IH hk hn hO hdis hnl hls
  go_enter Try.func29, Try.ntmps29
  go_wp2_with fail
  obtain ⟨b0, b1, b2, b3⟩ := box_cells w 48 ⟨x.s, x.H, x.L, (k : Int)⟩
  have hBW : Below w.heap.size w (w.alloc (.cells #[.bool x.s, .int .i64 x.H.toInt, .int .i64 x.L.toInt, .int .i64 (k : Int)] 48)) := (Below.refl _ w).alloc (Nat.le_refl _) _
  have hs1 : (w.alloc (.cells #[.bool x.s, .int .i64 x.H.toInt, .int .i64 x.L.toInt, .int .i64 (k : Int)] 48)).heap.size = w.heap.size + 1 := by simp
  generalize (w.alloc (.cells #[.bool x.s, .int .i64 x.H.toInt, .int .i64 x.L.toInt, .int .i64 (k : Int)] 48)) = W1 at *
  have HBW := hidP hBW
  have HB0 := hidP (And.intro b0 (And.intro b1 (And.intro b2 b3)))
  have HS1 := hidP hs1
  clear b0 b1 b2 b3 hBW hs1
  go_loopw [7, 14] (fun t7 t14 wr => ∃ (i : Nat) (a7 : Option Addr) (m7 c7 : Nat), i ≤ n ∧ t14 = .int .i64 i ∧ t7 = .slice a7 m7 c7 ∧ m7 = ((xs.take i).filter (fun t => wB t x)).length ∧ OwnR 48 wr (w.heap.size + 1) (.slice a7 m7 c7) (((xs.take i).filter (fun t => wB t x)).map Sp.spn) ∧ (xs.take i).any (wB x) = false ∧ Below (w.heap.size + 1) W1 wr) (fun _ t14 _ => n - (intOf t14).toNat)
  case atStart => exact ⟨0, none, 0, 0, Nat.zero_le _, rfl, rfl, by simp, own_none _ _ _, by simp, Below.refl _ W1⟩
  case round =>
    obtain ⟨i, a7, m7, c7, hi, rfl, rfl, hm7, hown, hany, hbel⟩ := hrel
    have hb' := HB0.out
    have c0 := (hbel.cell (Nat.lt_succ_self w.heap.size)).trans hb'.1
    have c1 := (hbel.cell (Nat.lt_succ_self w.heap.size)).trans hb'.2.1
    have c2 := (hbel.cell (Nat.lt_succ_self w.heap.size)).trans hb'.2.2.1
    have c3 := (hbel.cell (Nat.lt_succ_self w.heap.size)).trans hb'.2.2.2
    clear hb'
    have hzr : w.heap.size + 1 ≤ wr.heap.size := by have := hbel.size; rw [HS1.out] at this; exact this
    have hzq : w.heap.size < wr.heap.size := hzr
    have HOw := hidP hown
    have HAny := hidP hany
    have HBel := hidP hbel
    have HM7 := hidP hm7
    have hm9 : m7 ≤ 300 := by rw [hm7]; exact Nat.le_trans (List.length_filter_le _ _) (by rw [List.length_take]; omega)
    have HBr := hidP (HBW.out.trans (hbel.mono (Nat.le_succ _)))
    clear hown hany hm7
    by_cases hlt : i < n
    · obtain ⟨p, o, t, rfl, hp, hq, e0, e1, e2, e3⟩ := HB.out.spn i (by rw [← HN.out]; exact hlt)
      have hpr : p < w.heap.size + 1 := by omega
      have d0 := (hbel.cell hpr).trans ((HBW.out.cell hp).trans e0)
      have d1 := (hbel.cell hpr).trans ((HBW.out.cell hp).trans e1)
      have d2 := (hbel.cell hpr).trans ((HBW.out.cell hp).trans e2)
      have d3 := (hbel.cell hpr).trans ((HBW.out.cell hp).trans e3)
      have HQ := hidP hq
      have ht : t.ok := HXs.out t (List.mem_of_getElem? hq)
      have hw1 : ∀ wx, Calls Try.prog 39 #[.agg #[.bool x.s, .int .i64 x.H.toInt, .int .i64 x.L.toInt, .int .i64 (k : Int)], .agg #[.bool t.s, .int .i64 t.H.toInt, .int .i64 t.L.toInt, .int .i64 (t.n : Int)]] wx fun e w' => e = .returned (.bool (wB x t)) ∧ Below wx.heap.size wx w' := fun wx => by
        have h := wBi (x := x) ht wx
        rw [HK.out] at h; exact h
      have hw2 : ∀ wx, Calls Try.prog 39 #[.agg #[.bool t.s, .int .i64 t.H.toInt, .int .i64 t.L.toInt, .int .i64 (t.n : Int)], .agg #[.bool x.s, .int .i64 x.H.toInt, .int .i64 x.L.toInt, .int .i64 (k : Int)]] wx fun e w' => e = .returned (.bool (wB t x)) ∧ Below wx.heap.size wx w' := fun wx => by
        have h := wBi (x := t) HX.out wx
        rw [HK.out] at h; exact h
      have HW1 := hidP hw1
      have HW2 := hidP hw2
      have HBx := hidP (box_cells wr 48 ⟨t.s, t.H, t.L, (t.n : Int)⟩)
      clear e0 e1 e2 e3 hq ht hw1 hw2 hbel
      cases hxt : wB x t
      · rw [hxt] at HW1
        have HAny2 := hidP (any_snoc x t xs i HQ.out HAny.out hxt)
        go_wp2_with fail
        refine (HW1.out _).mono ?_
        rintro e w2 ⟨rfl, hb2⟩
        have hz2 := hb2.size
        rw [heap_size_alloc'] at hz2
        have hr2 : Below wr.heap.size wr w2 := ((Below.refl _ wr).alloc (Nat.le_refl _) _).trans (hb2.mono (by simp))
        have HB2 := hidP (HBel.out.trans (hr2.mono hzr))
        have HO2 := hidP (HOw.out.later hr2)
        have c0' := (hr2.cell hzq).trans c0
        have c1' := (hr2.cell hzq).trans c1
        have c2' := (hr2.cell hzq).trans c2
        have c3' := (hr2.cell hzq).trans c3
        have d0' := (hb2.cell (show wr.heap.size < _ by simp)).trans HBx.out.1
        have d1' := (hb2.cell (show wr.heap.size < _ by simp)).trans HBx.out.2.1
        have d2' := (hb2.cell (show wr.heap.size < _ by simp)).trans HBx.out.2.2.1
        have d3' := (hb2.cell (show wr.heap.size < _ by simp)).trans HBx.out.2.2.2
        have hz2' : w.heap.size + 1 ≤ w2.heap.size := by omega
        clear hb2 hr2 c0 c1 c2 c3 d0 d1 d2 d3 HBx
        cases htx : wB t x
        · rw [htx] at HW2
          have HNe := hidP (near_snoc x t xs i HQ.out)
          rw [htx, if_neg (by simp), List.append_nil] at HNe
          go_wp2_with fail
          refine (HW2.out _).mono ?_
          rintro e w3 ⟨rfl, hr3⟩
          have HB3 := hidP (HB2.out.trans (hr3.mono hz2'))
          have HO3 := hidP (HO2.out.later hr3)
          clear hr3
          go_wp2_with fail
          go_roundw
          case rel => exact ⟨i + 1, a7, m7, c7, by omega, by go_num, rfl, by rw [HNe.out]; exact HM7.out, by rw [HNe.out]; exact HO3.out, HAny2.out, HB3.out⟩
          case measure => simp [intOf]; omega
        · rw [htx] at HW2
          have HNe := hidP (near_snoc x t xs i HQ.out)
          rw [htx, if_pos rfl] at HNe
          go_wp2_with fail
          refine (HW2.out _).mono ?_
          rintro e w3 ⟨rfl, hr3⟩
          have HB3 := hidP (HB2.out.trans (hr3.mono hz2'))
          have HO3 := hidP (HO2.out.later hr3)
          have hz3 : w.heap.size + 1 ≤ w3.heap.size := Nat.le_trans hz2' hr3.size
          have d0 := (hr3.cell (show wr.heap.size < w2.heap.size by omega)).trans d0'
          have d1 := (hr3.cell (show wr.heap.size < w2.heap.size by omega)).trans d1'
          have d2 := (hr3.cell (show wr.heap.size < w2.heap.size by omega)).trans d2'
          have d3 := (hr3.cell (show wr.heap.size < w2.heap.size by omega)).trans d3'
          clear hr3 d0' d1' d2' d3' c0' c1' c2' c3'
          go_wp2_with (at_builtin; refine wpList_appR Try.fourS _ rfl (.tmp 25) (.tmp 27) 43 rfl (w.heap.size + 1) a7 m7 c7 1 (((xs.take i).filter (fun t => wB t x)).map Sp.spn) [t.spn] (.slice (some ⟨w3.heap.size, 0, none⟩) 1 1) rfl (by rw [List.length_map]; exact HM7.out) rfl (HO3.out.alloc _) rfl (src_row Try.fourS 1 1 rfl (row_one w3 48 t.spn) (by simp)) (by omega) (by simp; omega) ?_; intro a6 c6 w4 ho4 hg4 ht4)
          go_roundw
          case rel => exact ⟨i + 1, a6, m7 + 1, c6, by omega, by go_num, rfl, by rw [HNe.out, List.length_append, ← HM7.out]; rfl, by rw [HNe.out, List.map_append]; exact ho4, HAny2.out, below_appR (HB3.out.alloc hz3 _) (HO3.out.alloc _) (by simp; omega) hg4⟩
          case measure => simp [intOf]; omega
      · rw [hxt] at HW1
        have HE : Hid (leftM k x xs = []) := by
          refine hidP (left_in ?_)
          rw [List.any_eq_true]
          exact ⟨t, List.mem_of_getElem? HQ.out, hxt⟩
        go_wp2_with fail
        refine (HW1.out _).mono ?_
        rintro e w2 ⟨rfl, hb2⟩
        have hr2 : Below wr.heap.size wr w2 := ((Below.refl _ wr).alloc (Nat.le_refl _) _).trans (hb2.mono (by simp))
        have HB2 := hidP (HBr.out.trans (hr2.mono (by omega)))
        clear hb2 hr2
        go_wp2_with fail
        go_ret
        rw [HE.out, List.append_nil]
        exact ⟨al, cl, rfl, HOl.out.later HB2.out, below_grown HB2.out _, Or.inl rfl⟩
    · have hin : i = n := by omega
      subst hin
      clear hbel
      have eT : xs.take i = xs := by rw [HN.out, List.take_length]
      rw [eT] at HM7 HOw HAny
      clear eT
      by_cases hm0 : m7 = 0
      · have HE : Hid (leftM k x xs = [x]) := hidP (left_all HAny.out (List.eq_nil_of_length_eq_zero (by rw [← HM7.out]; exact hm0)))
        subst hm0
        have hOl := HOl.out.later HBr.out
        have HOr := hidP hOl
        have hBr : B ≤ wr.heap.size := by omega
        clear hOl
        go_wp2_with (at_builtin; refine wpList_appR Try.fourS _ rfl (.tmp 33) (.tmp 35) 43 rfl B al nl cl 1 (ls.map Sp.spn) [⟨x.s, x.H, x.L, (k : Int)⟩] (.slice (some ⟨wr.heap.size, 0, none⟩) 1 1) rfl (by rw [List.length_map]; exact HNl.out) rfl (HOr.out.alloc _) rfl (src_row Try.fourS 1 1 rfl (row_one wr 48 ⟨x.s, x.H, x.L, (k : Int)⟩) (by simp)) (by have := HLs.out; omega) (by simp; omega) ?_; intro a6 c6 w4 ho4 hg4 ht4)
        go_ret
        rw [HE.out]
        refine ⟨a6, c6, rfl, ?_, (below_grown (HBr.out.alloc (by omega) _) _).trans hg4, ?_⟩
        · have e : [x].map Sp.spn = [⟨x.s, x.H, x.L, (k : Int)⟩] := by simp [Sp.spn, HK.out]
          first | (rw [List.map_append, e]; exact ho4) | (rw [e]; exact ho4)
        · rcases ht4 with h | h
          · exact Or.inl h
          · exact Or.inr ⟨_, h, by simp; omega⟩
      · have hne : xs.filter (fun t => wB t x) ≠ [] := fun h => hm0 (by rw [HM7.out, h]; rfl)
        obtain ⟨k', rfl⟩ : ∃ k', k = k' + 1 := by
          cases k with
          | zero => exact absurd (near_zero HK.out hne) (by rw [HAny.out]; simp)
          | succ k' => exact ⟨k', rfl⟩
        have HE := hidP (left_two (k := k') HAny.out hne)
        have hx := HX.out
        have hxn := HK.out
        have hlow := low_ok hx hxn
        have hupp := upp_ok hx hxn
        have HH := hidP (halves_any x.s x.H x.L k' hk9)
        have hxs2 : ∀ t ∈ xs.filter (fun t => wB t x), t.ok := fun t ht => HXs.out t (List.mem_filter.1 ht).1
        have IHl := HI.out k' (Nat.lt_succ_self k') (lowS x k') hlow rfl (xs.filter fun t => wB t x) hxs2 (by rw [← HM7.out]; omega)
        have IHu := HI.out k' (Nat.lt_succ_self k') (uppS x k') hupp rfl (xs.filter fun t => wB t x) hxs2 (by rw [← HM7.out]; omega)
        have hb1 := left_le hlow (xs.filter fun t => wB t x) (by rw [← HM7.out]; omega)
        have hb2 := left_le hupp (xs.filter fun t => wB t x) (by rw [← HM7.out]; omega)
        rw [← HM7.out] at IHl IHu
        obtain ⟨l1, hl1⟩ : ∃ l1, l1 = leftM k' (lowS x k') (xs.filter fun t => wB t x) := ⟨_, rfl⟩
        obtain ⟨l2, hl2⟩ : ∃ l2, l2 = leftM k' (uppS x k') (xs.filter fun t => wB t x) := ⟨_, rfl⟩
        change (leftM k' (lowS x k') (xs.filter fun t => wB t x)).length ≤ 38401 at hb1
        change (leftM k' (uppS x k') (xs.filter fun t => wB t x)).length ≤ 38401 at hb2
        rw [← hl1] at hb1 IHl HE
        rw [← hl2] at hb2 IHu HE
        obtain ⟨H2, hH2⟩ : ∃ H2, H2 = cH k' (fH (k' + 1) x.H) := ⟨_, rfl⟩
        obtain ⟨L2, hL2⟩ : ∃ L2, L2 = cL k' (fL (k' + 1) x.L) := ⟨_, rfl⟩
        rw [← hH2, ← hL2] at HH
        have HIl : Hid (∀ (a : Option Addr) (cap : Nat) (w : World) (_ : Row w a ((xs.filter fun t => wB t x).map Sp.spn)) (B : Nat) (al : Option Addr) (cl nl : Nat) (ls : List Sp) (_ : nl = ls.length) (_ : OwnR 48 w B (.slice al nl cl) (ls.map Sp.spn)) (_ : nl + l1.length ≤ 100000) (_ : B ≤ w.heap.size) (_ : ∀ p o, a = some ⟨p, o, none⟩ → (Value.slice al nl cl).ownBlock ≠ some p), Calls Try.prog 29 #[.agg #[.bool x.s, .int .i64 x.H.toInt, .int .i64 x.L.toInt, .int .i64 (k' : Int)], .slice a m7 cap, .slice al nl cl] w fun e w' => ∃ a' c', e = .returned (.slice a' (nl + l1.length) c') ∧ OwnR 48 w' B (.slice a' (nl + l1.length) c') ((ls ++ l1).map Sp.spn) ∧ w.grownBy w' (Value.slice al nl cl).ownBlock ∧ (a' = al ∨ ∃ g, a' = some ⟨g, 0, none⟩ ∧ w.heap.size ≤ g)) := hidP IHl
        have HIu : Hid (∀ (a : Option Addr) (cap : Nat) (w : World) (_ : Row w a ((xs.filter fun t => wB t x).map Sp.spn)) (B : Nat) (al : Option Addr) (cl nl : Nat) (ls : List Sp) (_ : nl = ls.length) (_ : OwnR 48 w B (.slice al nl cl) (ls.map Sp.spn)) (_ : nl + l2.length ≤ 100000) (_ : B ≤ w.heap.size) (_ : ∀ p o, a = some ⟨p, o, none⟩ → (Value.slice al nl cl).ownBlock ≠ some p), Calls Try.prog 29 #[.agg #[.bool x.s, .int .i64 H2.toInt, .int .i64 L2.toInt, .int .i64 (k' : Int)], .slice a m7 cap, .slice al nl cl] w fun e w' => ∃ a' c', e = .returned (.slice a' (nl + l2.length) c') ∧ OwnR 48 w' B (.slice a' (nl + l2.length) c') ((ls ++ l2).map Sp.spn) ∧ w.grownBy w' (Value.slice al nl cl).ownBlock ∧ (a' = al ∨ ∃ g, a' = some ⟨g, 0, none⟩ ∧ w.heap.size ≤ g)) := by
          rw [hH2, hL2]; exact hidP IHu
        have hm1 : (((m7 : Nat) : Int) == 0) = false := by rw [beq_eq_false_iff_ne]; omega
        have htot : nl + l1.length + l2.length ≤ 100000 := by have := HLs.out; rw [HE.out, List.length_append] at this; omega
        clear hne hx hxn hlow hupp hxs2 IHl IHu hl1 hl2 hm0 hH2 hL2
        go_wp2_with fail
        refine (HH.out _).mono ?_
        rintro e w2 ⟨rfl, hb2'⟩
        have hz2 := hb2'.size
        have HOw2 := hidP (HOw.out.later hb2')
        have HB2 := hidP (HBr.out.trans (hb2'.mono (by omega)))
        clear hb2' HOw HBr c0 c1 c2 c3
        go_wp2_with fail
        obtain ⟨p0, p1, p2, p3⟩ := box_cells w2 48 ⟨x.s, x.H, x.L, (k' : Int)⟩
        obtain ⟨q0, q1, q2, q3⟩ := box_cells (w2.alloc (.cells #[.bool x.s, .int .i64 x.H.toInt, .int .i64 x.L.toInt, .int .i64 (k' : Int)] 48)) 48 ⟨x.s, H2, L2, (k' : Int)⟩
        have hbb : Below w2.heap.size w2 ((w2.alloc (.cells #[.bool x.s, .int .i64 x.H.toInt, .int .i64 x.L.toInt, .int .i64 (k' : Int)] 48)).alloc (.cells #[.bool x.s, .int .i64 H2.toInt, .int .i64 L2.toInt, .int .i64 (k' : Int)] 48)) := ((Below.refl _ w2).alloc (Nat.le_refl _) _).alloc (by simp) _
        have hb1' : Below (w2.heap.size + 1) (w2.alloc (.cells #[.bool x.s, .int .i64 x.H.toInt, .int .i64 x.L.toInt, .int .i64 (k' : Int)] 48)) ((w2.alloc (.cells #[.bool x.s, .int .i64 x.H.toInt, .int .i64 x.L.toInt, .int .i64 (k' : Int)] 48)).alloc (.cells #[.bool x.s, .int .i64 H2.toInt, .int .i64 L2.toInt, .int .i64 (k' : Int)] 48)) := (Below.refl _ _).alloc (by simp) _
        have hsz : ((w2.alloc (.cells #[.bool x.s, .int .i64 x.H.toInt, .int .i64 x.L.toInt, .int .i64 (k' : Int)] 48)).alloc (.cells #[.bool x.s, .int .i64 H2.toInt, .int .i64 L2.toInt, .int .i64 (k' : Int)] 48)).heap.size = w2.heap.size + 2 := by simp
        have p0' := (hb1'.cell (Nat.lt_succ_self _)).trans p0
        have p1' := (hb1'.cell (Nat.lt_succ_self _)).trans p1
        have p2' := (hb1'.cell (Nat.lt_succ_self _)).trans p2
        have p3' := (hb1'.cell (Nat.lt_succ_self _)).trans p3
        simp only [heap_size_alloc'] at q0 q1 q2 q3
        generalize ((w2.alloc (.cells #[.bool x.s, .int .i64 x.H.toInt, .int .i64 x.L.toInt, .int .i64 (k' : Int)] 48)).alloc (.cells #[.bool x.s, .int .i64 H2.toInt, .int .i64 L2.toInt, .int .i64 (k' : Int)] 48)) = W at *
        have hc8 : W.cell? ⟨w2.heap.size, 0, none⟩ = some (.bool x.s) ∧ W.cell? ⟨w2.heap.size, 1, none⟩ = some (.int .i64 x.H.toInt) ∧ W.cell? ⟨w2.heap.size, 2, none⟩ = some (.int .i64 x.L.toInt) ∧ W.cell? ⟨w2.heap.size, 3, none⟩ = some (.int .i64 (k' : Int)) ∧ W.cell? ⟨w2.heap.size + 1, 0, none⟩ = some (.bool x.s) ∧ W.cell? ⟨w2.heap.size + 1, 1, none⟩ = some (.int .i64 H2.toInt) ∧ W.cell? ⟨w2.heap.size + 1, 2, none⟩ = some (.int .i64 L2.toInt) ∧ W.cell? ⟨w2.heap.size + 1, 3, none⟩ = some (.int .i64 (k' : Int)) ∧ W.grownBy W (Value.slice al nl cl).ownBlock := ⟨p0', p1', p2', p3', q0, q1, q2, q3, World.grownBy.refl _ _⟩
        have hOwW := HOw2.out.later hbb
        have HRW := hidP hOwW.row
        have hBW2 := HB2.out.trans (hbb.mono (by omega))
        have HOlW := hidP (HOl.out.later hBW2)
        have HBW2 := hidP hBW2
        have HOlD := hidP (HOlW.out.later (Below.refl _ W).drew)
        have hr9 : ∀ g, (Value.slice al nl cl).ownBlock = some g → g < w.heap.size := fun g hg => (HOl.out.lt g hg).2
        have hn9 : ∀ p o, a7 = some ⟨p, o, none⟩ → w.heap.size + 1 ≤ p ∧ p < W.heap.size := fun p o h => hOwW.lt p (by rw [h]; rfl)
        have HR9 := hidP hr9
        have HN9 := hidP hn9
        have hBW' : B ≤ W.heap.size := by have := hBW2.size; omega
        have HDl : Hid (∀ p o, a7 = some ⟨p, o, none⟩ → (Value.slice al nl cl).ownBlock ≠ some p) := hidP fun p o h e => by
          have h1 := hr9 p e
          have h2 := hn9 p o h
          omega
        have hrg : some w2.heap.size ≠ (Value.slice al nl cl).ownBlock := fun e => by have := hr9 _ e.symm; omega
        have hrh : some (w2.heap.size + 1) ≠ (Value.slice al nl cl).ownBlock := fun e => by have := hr9 _ e.symm; omega
        clear p0 p1 p2 p3 q0 q1 q2 q3 hb1' hbb p0' p1' p2' p3' hOwW hr9 hn9 HOw2 hBW2
        have hg1 : w2.heap.size < W.heap.size := by omega
        have hg2 : w2.heap.size + 1 < W.heap.size := by omega
        go_region_held3 (fun w' => w'.cell? ⟨w2.heap.size, 0, none⟩ = some (.bool x.s) ∧ w'.cell? ⟨w2.heap.size, 1, none⟩ = some (.int .i64 x.H.toInt) ∧ w'.cell? ⟨w2.heap.size, 2, none⟩ = some (.int .i64 x.L.toInt) ∧ w'.cell? ⟨w2.heap.size, 3, none⟩ = some (.int .i64 (k' : Int)) ∧ w'.cell? ⟨w2.heap.size + 1, 0, none⟩ = some (.bool x.s) ∧ w'.cell? ⟨w2.heap.size + 1, 1, none⟩ = some (.int .i64 H2.toInt) ∧ w'.cell? ⟨w2.heap.size + 1, 2, none⟩ = some (.int .i64 L2.toInt) ∧ w'.cell? ⟨w2.heap.size + 1, 3, none⟩ = some (.int .i64 (k' : Int)) ∧ W.grownBy w' (Value.slice al nl cl).ownBlock) (first | (with_reducible exact hc8) | (with_reducible exact keep8g (p := ⟨x.s, x.H, x.L, (k' : Int)⟩) (q := ⟨x.s, H2, L2, (k' : Int)⟩) hg1 hg2 hrg hrh hc8 b4) | (with_reducible exact keep8g (p := ⟨x.s, x.H, x.L, (k' : Int)⟩) (q := ⟨x.s, H2, L2, (k' : Int)⟩) hg1 hg2 hrg hrh hc8 b3) | (with_reducible exact keep8g (p := ⟨x.s, x.H, x.L, (k' : Int)⟩) (q := ⟨x.s, H2, L2, (k' : Int)⟩) hg1 hg2 hrg hrh hc8 (below_grown (Below.refl _ _).drew _)))
          (first | (go_at_call_of 29 (Value.int IntKind.i64 x.H.toInt); refine (HIl.out a7 c7 _ (HRW.out.far (lastg (by assumption)) HDl.out) B al cl nl ls HNl.out (by first | with_reducible exact HOlW.out | with_reducible exact HOlD.out) (by omega) (by first | omega | (simp; omega)) HDl.out).mono ?_; rintro e w3 ⟨a3, c3, rfl, o3, g3, t3⟩; have b3 := (lastg (by assumption)).trans g3; have s3 := (lastg (by assumption)).size; have r3 := own_t3 (m := nl + l1.length) (c := c3) (nl := nl) (cl := cl) t3 s3; have d3 := own_d3 r3 HDl.out (fun p o h => (HN9.out p o h).2)) | (go_at_call_of 29 (Value.int IntKind.i64 H2.toInt); refine (HIu.out a7 c7 _ (HRW.out.far b3 HDl.out) B a3 c3 (nl + l1.length) (ls ++ l1) (by rw [List.length_append, ← HNl.out]) o3 htot (Nat.le_trans hBW' b3.size) d3).mono ?_; rintro e w4 ⟨a4, c4, rfl, o4, g4, t4⟩; have b4 := grown_two b3 g4 r3))
        all_goals
          have HF : Hid (OwnR 48 w4 B (.slice a4 (nl + l1.length + l2.length) c4) ((ls ++ (l1 ++ l2)).map Sp.spn) ∧ w.grownBy w4 (Value.slice al nl cl).ownBlock ∧ (a4 = al ∨ ∃ g, a4 = some ⟨g, 0, none⟩ ∧ w.heap.size ≤ g)) := by
            refine hidP ⟨?_, (below_grown HBW2.out _).trans b4, ?_⟩
            · rw [← List.append_assoc]; exact o4
            · have hs := HBW2.out.size
              have hs3 := b3.size
              rcases t4 with rfl | ⟨g, rfl, hg⟩
              · rcases t3 with h | ⟨g, h, hg⟩
                · exact Or.inl h
                · exact Or.inr ⟨g, h, by omega⟩
              · exact Or.inr ⟨g, rfl, by omega⟩
          clear o3 g3 t3 b3 s3 r3 d3 o4 g4 t4 b4
          go_wp2_with fail
          go_ret
          rw [HE.out, List.length_append, ← Nat.add_assoc]
          exact ⟨_, _, rfl, HF.out⟩
theorem leftOf_all (k : Nat) : ILeft k := Nat.strongRecOn k fun k ih => leftOf_step k ih

end Go.Proofs.Ytnllpnhomjplpab
