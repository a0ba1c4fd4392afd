/-
  The program's looks at a right Keep: it is right; its last index, its terms.
-/
import Derived.Test.YtamaanbnlnpjcaaV13R
import Derived.Deep.RegionWith
import Derived.Deep.RegionHeld3
namespace Go.Proofs.Ytamaanbnlnpjcaa
open Go.ChangeShapes Go.WideShapes Go.ChangeAt Go.RowKit Go.Joins Go.Deep

theorem dropE {es : List En} {i : Nat} {e : En} (h : es[i]? = some e) : es.drop i = e :: es.drop (i + 1) := by
  obtain ⟨hi, rfl⟩ := List.getElem?_eq_some_iff.1 h
  exact List.drop_eq_getElem_cons hi

set_option maxRecDepth 10000 in
set_option maxHeartbeats 2000000 in
theorem baseOk_yes (k : Kv) (ho : KvOk k) (w : World) :
    Calls Try.prog 38 #[k.v] w fun e w' => e = .returned (.bool true) ∧ Below w.heap.size w w' := by
  obtain ⟨T, V, B, E, ga, gn, gc, ha, hn, hc, sa, sn, sc, la, ln, lc, ps, bs, es⟩ := k
  have hb := ho.bs
  simp only at hb
  clear ho
  rcases hb with ⟨h1, h2, h3⟩ | ⟨h1, h2, h3, h4, h5⟩
  · subst h1 h2 h3
    go_enter Try.func38, Try.ntmps38
    go_wp2_with fail
    go_ret
    exact ⟨rfl, alloc_below w _⟩
  · have e1 : (B == 0) = false := by simp; omega
    have e2 : decide (1 ≤ B) = true := decide_eq_true h1
    have e3 : decide (B ≤ 1000000) = true := decide_eq_true h2
    have e4 : decide (1 ≤ E) = true := decide_eq_true h3
    have e5 : decide (E ≤ T) = true := decide_eq_true h4
    have e6 : decide ((sn : Int) ≤ 20000) = true := decide_eq_true (by omega)
    go_enter Try.func38, Try.ntmps38
    go_wp2_with fail
    go_ret
    exact ⟨rfl, alloc_below w _⟩

theorem risE_split (l : Int) (e : En) (t : List En) : risE l (e :: t) = ((e.ok && decide (l ≤ e.T)) && risE e.T t) := rfl
theorem lasE_cons (l : Int) (e : En) (t : List En) : lasE l (e :: t) = lasE e.T t := rfl

set_option maxRecDepth 10000 in
set_option maxHeartbeats 4000000 in
theorem entriesOk_any (la : Option Addr) (ln lc : Nat) (es : List En) (E T : Int) (w : World) (hl : ln = es.length) (hz : ln ≤ 1048576)
    (hR : RowG KEn w la es) (hD : ∀ e ∈ es, DatR w e) :
    Calls Try.prog 77 #[.slice la ln lc, .int .i64 E, .int .i64 T] w fun e w' => e = .returned (.bool (risE E es && decide (lasE E es ≤ T))) ∧ Below w.heap.size w w' := by
  have HR := hidP (And.intro hR hD)
  have HN := hidP hl
  clear hR hD hl
  go_enter Try.func77, Try.ntmps77
  go_wp2_with fail
  go_loopw [7, 9, 13] (fun t7 _ t13 wr => ∃ (i : Nat) (l : Int), i ≤ ln ∧ t13 = .int .i64 i ∧ t7 = .int .i64 l ∧ (risE l (es.drop i) && decide (lasE l (es.drop i) ≤ T)) = (risE E es && decide (lasE E es ≤ T)) ∧ Below w.heap.size w wr) (fun _ _ t13 _ => ln - (intOf t13).toNat)
  case atStart => exact ⟨0, E, Nat.zero_le _, rfl, rfl, rfl, Below.refl _ _⟩
  case round =>
    obtain ⟨i, l, hin, rfl, rfl, h1, hbr⟩ := hrel
    have HB := hidP hbr
    by_cases hlt : i < ln
    · obtain ⟨p, o, e, rfl, hp, he, c0, c1, c2⟩ := rowEn HR.out.1 i (by have := HN.out; omega)
      rw [dropE he, risE_split, lasE_cons] at h1
      have hD := (HR.out.2 e (List.mem_of_getElem? he)).later hbr
      have HE := hidP (fun W (hb : Below wr.heap.size wr W) => iEntry_any e W (hD.later hb))
      have x0 := (hbr.cell hp).trans c0
      have x1 := (hbr.cell hp).trans c1
      have x2 := (hbr.cell hp).trans c2
      have HS := hidP h1
      have i0 : (0 : Int) ≤ (i : Int) := by omega
      have i1 : (i : Int) < (ln : Int) := by omega
      clear c0 c1 c2 h1 hD hbr he hp
      cases ho : e.ok
      · rw [ho] at HE HS
        go_wp2_with fail
        obtain ⟨y0, y1, y2⟩ := box3E wr 69 (.int .i64 e.T) (.int .i64 e.K) (.slice e.a e.n e.c)
        have yB := alloc_below wr (.cells #[.int .i64 e.T, .int .i64 e.K, .slice e.a e.n e.c] 69)
        have yL : wr.heap.size < (wr.alloc (.cells #[.int .i64 e.T, .int .i64 e.K, .slice e.a e.n e.c] 69)).heap.size := by simp
        generalize wr.alloc (.cells #[.int .i64 e.T, .int .i64 e.K, .slice e.a e.n e.c] 69) = W2 at *
        refine (HE.out _ yB).mono ?_
        rintro x w3 ⟨rfl, hb3⟩
        have z0 := (hb3.cell yL).trans y0
        have HF := hidP (HB.out.trans ((yB.trans (hb3.mono yB.size)).mono HB.out.size))
        clear y0 y1 y2 yB hb3
        go_wp2_with fail
        go_ret
        exact ⟨by rw [← HS.out]; rfl, HF.out⟩
      · rw [ho] at HE HS
        by_cases t9 : e.T < l
        · have t1 : decide (e.T < l) = true := decide_eq_true t9
          have t2 : decide (l ≤ e.T) = false := decide_eq_false (by omega)
          rw [t2] at HS
          clear t2
          go_wp2_with fail
          obtain ⟨y0, y1, y2⟩ := box3E wr 69 (.int .i64 e.T) (.int .i64 e.K) (.slice e.a e.n e.c)
          have yB := alloc_below wr (.cells #[.int .i64 e.T, .int .i64 e.K, .slice e.a e.n e.c] 69)
          have yL : wr.heap.size < (wr.alloc (.cells #[.int .i64 e.T, .int .i64 e.K, .slice e.a e.n e.c] 69)).heap.size := by simp
          generalize wr.alloc (.cells #[.int .i64 e.T, .int .i64 e.K, .slice e.a e.n e.c] 69) = W2 at *
          refine (HE.out _ yB).mono ?_
          rintro x w3 ⟨rfl, hb3⟩
          have z0 := (hb3.cell yL).trans y0
          have HF := hidP (HB.out.trans ((yB.trans (hb3.mono yB.size)).mono HB.out.size))
          clear y0 y1 y2 yB hb3
          go_wp2_with fail
          go_ret
          exact ⟨by rw [← HS.out]; rfl, HF.out⟩
        · have t1 : decide (e.T < l) = false := decide_eq_false t9
          have t2 : decide (l ≤ e.T) = true := decide_eq_true (by omega)
          rw [t2] at HS
          clear t2
          go_wp2_with fail
          obtain ⟨y0, y1, y2⟩ := box3E wr 69 (.int .i64 e.T) (.int .i64 e.K) (.slice e.a e.n e.c)
          have yB := alloc_below wr (.cells #[.int .i64 e.T, .int .i64 e.K, .slice e.a e.n e.c] 69)
          have yL : wr.heap.size < (wr.alloc (.cells #[.int .i64 e.T, .int .i64 e.K, .slice e.a e.n e.c] 69)).heap.size := by simp
          generalize wr.alloc (.cells #[.int .i64 e.T, .int .i64 e.K, .slice e.a e.n e.c] 69) = W2 at *
          refine (HE.out _ yB).mono ?_
          rintro x w3 ⟨rfl, hb3⟩
          have z0 := (hb3.cell yL).trans y0
          have HF := hidP (HB.out.trans ((yB.trans (hb3.mono yB.size)).mono HB.out.size))
          clear y0 y1 y2 yB hb3
          go_wp2_with fail
          go_roundw
          case rel => exact ⟨i + 1, e.T, by omega, by go_num, rfl, HS.out, HF.out⟩
          case measure => simp [intOf]; omega
    · have hiE : i = ln := by omega
      subst hiE
      have HS := hidP h1
      clear h1 hbr
      by_cases e1 : l ≤ T
      · have e2 : decide (l ≤ T) = true := decide_eq_true e1
        go_wp2_with fail
        go_ret
        have := HS.out
        rw [List.drop_of_length_le (by have := HN.out; omega)] at this
        exact ⟨by rw [← this]; simp [risE, lasE, e1], HB.out⟩
      · have e2 : decide (l ≤ T) = false := decide_eq_false e1
        go_wp2_with fail
        go_ret
        have := HS.out
        rw [List.drop_of_length_le (by have := HN.out; omega)] at this
        exact ⟨by rw [← this]; show _ = Ending.returned (.bool (true && decide (l ≤ T))); rw [e2]; rfl, HB.out⟩

end Go.Proofs.Ytamaanbnlnpjcaa
