/-
  What time does to a right book, in plain terms.
-/
import Derived.Test.YtddnofonodgneaaGreatDoorV6Hol
import Derived.Test.YtddnofonodgneaaGreatDoorV6IRn
import Derived.Test.YtddnofonodgneaaGreatDoorV6IAd
namespace Go.Proofs.YtddnofonodgneaaGreatDoor
open Go.RowKit

theorem lf_iff (T N : Int) : ∀ (ls : List Ls) (r : Option Ad), leasesF T N r ls = true ↔ (∀ x ∈ ls, okLs T N x = true) ∧ ls.Pairwise (fun x y => x.a.key < y.a.key) ∧ (∀ a, r = some a → ∀ q ∈ ls, a.key < q.a.key)
  | [], r => by simp [leasesF]
  | x :: t, r => by
      unfold leasesF
      rw [Bool.and_eq_true, Bool.and_eq_true, lf_iff T N t (some x.a)]
      constructor
      · rintro ⟨⟨h1, h2⟩, h3, h4, h5⟩
        have h5' := h5 x.a rfl
        refine ⟨fun y hy => ?_, List.pairwise_cons.2 ⟨h5', h4⟩, fun a ha q hq => ?_⟩
        · rcases List.mem_cons.1 hy with e | e
          · subst e; exact h1
          · exact h3 y e
        · subst ha
          have h2' : a.key < x.a.key := by simpa [ascA] using h2
          rcases List.mem_cons.1 hq with e | e
          · subst e; exact h2'
          · have := h5' q e; omega
      · rintro ⟨h1, h2, h3⟩
        obtain ⟨h4, h5⟩ := List.pairwise_cons.1 h2
        refine ⟨⟨h1 x (List.mem_cons_self ..), ?_⟩, fun y hy => h1 y (List.mem_cons_of_mem _ hy), h5, fun a ha q hq => ?_⟩
        · cases r with
          | none => rfl
          | some a => simpa [ascA] using h3 a rfl x (List.mem_cons_self ..)
        · cases ha; exact h4 q hq
theorem bk_iff {ls : List Ls} {T N : Int} : bkB ls T N = true ↔ ls.length ≤ 80 ∧ (0 ≤ T ∧ T ≤ 1000000000) ∧ (0 ≤ N ∧ N ≤ 1000000000) ∧ (∀ x ∈ ls, okLs T N x = true) ∧ ls.Pairwise (fun x y => x.a.key < y.a.key) ∧ (ls.map (·.k)).Nodup := by
  unfold bkB tokB
  simp only [Bool.and_eq_true, decide_eq_true_eq, lf_iff]
  constructor
  · rintro ⟨⟨h1, h2, h3⟩, ⟨h4, h5, _⟩, h6⟩; exact ⟨h1, h2, h3, h4, h5, h6⟩
  · rintro ⟨h1, h2, h3, h4, h5, h6⟩; exact ⟨⟨h1, h2, h3⟩, ⟨h4, h5, fun a ha => by cases ha⟩, h6⟩
theorem ok_time {T N M : Int} {x : Ls} (h : okLs T N x = true) (hm : M < x.u) : okLs T M x = true := by
  unfold okLs at *
  simp only [Bool.and_eq_true, decide_eq_true_eq] at *
  exact ⟨h.1, h.2.1, hm, h.2.2.2⟩
theorem ok_end {T N : Int} {x : Ls} (h : okLs T N x = true) : N < x.u ∧ x.u ≤ 1000000000 := by
  unfold okLs at h
  simp only [Bool.and_eq_true, decide_eq_true_eq] at h
  exact h.2.2
theorem ok_until {T N u : Int} {x : Ls} (h : okLs T N x = true) (h1 : N < u) (h2 : u ≤ 1000000000) : okLs T N ⟨x.a, x.t, x.k, u⟩ = true := by
  unfold okLs at *
  simp only [Bool.and_eq_true, decide_eq_true_eq] at *
  exact ⟨h.1, h.2.1, h1, h2⟩
theorem bk_stay {ls : List Ls} {T N now : Int} (h : bkB ls T N = true) (h0 : N ≤ now) (h9 : now ≤ 1000000000) : bkB (stayL now ls) T now = true := by
  obtain ⟨h1, h2, h3, h4, h5, h6⟩ := bk_iff.1 h
  have hs : (stayL now ls).Sublist ls := List.filter_sublist
  refine bk_iff.2 ⟨Nat.le_trans hs.length_le h1, h2, ⟨by omega, h9⟩, fun x hx => ?_, h5.sublist hs, h6.sublist (hs.map _)⟩
  unfold stayL at hx
  rw [List.mem_filter, decide_eq_true_eq] at hx
  exact ok_time (h4 x hx.1) hx.2
theorem map_same {β : Type} {ls : List Ls} {i : Nat} {q q' : Ls} (f : Ls → β) (hq : ls[i]? = some q) (hf : f q' = f q) : (ls.set i q').map f = ls.map f := by
  rw [List.map_set, hf]
  obtain ⟨hi, rfl⟩ := List.getElem?_eq_some_iff.1 hq
  apply List.ext_getElem?
  intro j
  rw [List.getElem?_set]
  split
  · rename_i he
    subst he
    rw [if_pos (by simpa using hi), List.getElem?_map, List.getElem?_eq_getElem hi]; rfl
  · rfl
theorem bk_set {ls : List Ls} {T N u : Int} {i : Nat} {q : Ls} (h : bkB ls T N = true) (hq : ls[i]? = some q) (h1 : N < u) (h2 : u ≤ 1000000000) : bkB (ls.set i ⟨q.a, q.t, q.k, u⟩) T N = true := by
  obtain ⟨g1, g2, g3, g4, g5, g6⟩ := bk_iff.1 h
  have e5 : ((ls.set i ⟨q.a, q.t, q.k, u⟩).map (fun x => x.a.key)) = ls.map (fun x => x.a.key) := map_same _ hq rfl
  have e6 : ((ls.set i ⟨q.a, q.t, q.k, u⟩).map (·.k)) = ls.map (·.k) := map_same _ hq rfl
  refine bk_iff.2 ⟨by rw [List.length_set]; exact g1, g2, g3, fun x hx => ?_, ?_, by rw [e6]; exact g6⟩
  · rcases List.mem_or_eq_of_mem_set hx with hx | hx
    · exact g4 x hx
    · subst hx; exact ok_until (g4 q (List.mem_of_getElem? hq)) h1 h2
  · have p1 : (ls.map (fun x => x.a.key)).Pairwise (· < ·) := List.pairwise_map.2 g5
    rw [← e5] at p1
    exact List.pairwise_map.1 p1
theorem fx_of {ls : List Ls} {T N : Int} {q : Ls} (h : bkB ls T N = true) (hq : q ∈ ls) : ∃ J : Nat, fxL ls q.a = some J ∧ ls[J]? = some q := by
  obtain ⟨J, hJ⟩ := List.mem_iff_getElem?.1 hq
  exact ⟨J, fx_some hJ rfl (fun j r hj hr => by have := (srt_bk h).1.1 j J r q hj hr hJ; omega), hJ⟩
theorem one_key {ls : List Ls} {T N : Int} {q r : Ls} (h : bkB ls T N = true) (hq : q ∈ ls) (hr : r ∈ ls) (he : r.a.key = q.a.key) : r = q := by
  obtain ⟨J, hJ⟩ := List.mem_iff_getElem?.1 hq
  obtain ⟨I, hI⟩ := List.mem_iff_getElem?.1 hr
  rcases Nat.lt_trichotomy I J with hh | hh | hh
  · have := (srt_bk h).1.1 I J r q hh hI hJ; omega
  · subst hh; rw [hI] at hJ; cases hJ; rfl
  · have := (srt_bk h).1.1 J I q r hh hJ hI; omega
theorem fx_gone {ls : List Ls} {T N now : Int} {q : Ls} (h : bkB ls T N = true) (hq : q ∈ ls) (hu : ¬ now < q.u) : fxL (stayL now ls) q.a = none := by
  refine fx_none fun j r hr he => ?_
  have hm := List.mem_of_getElem? hr
  unfold stayL at hm
  rw [List.mem_filter, decide_eq_true_eq] at hm
  have := one_key h hq hm.1 he
  subst this
  exact hu hm.2
theorem hcd_of {ls : List Ls} {ad : Ad} {tk : Int} {J : Nat} {q : Ls} (hx : fxL ls ad = some J) (hq : ls[J]? = some q) (hk : q.k = tk) : hcdL ls ad tk = 0 := by
  unfold hcdL
  rw [hx]
  simp only [hq]
  rw [if_pos hk]
theorem hcd_none {ls : List Ls} {ad : Ad} {tk : Int} (hx : fxL ls ad = none) : hcdL ls ad tk = 13 := by
  unfold hcdL
  rw [hx]
theorem len_parts (now : Int) (ls : List Ls) : (stayL now ls).length + (goneL now ls).length = ls.length := by
  unfold stayL goneL
  rw [List.length_map]
  induction ls with
  | nil => rfl
  | cons x t ih =>
    by_cases hx : now < x.u
    · rw [List.filter_cons_of_pos (by simpa using hx), List.filter_cons_of_neg (by simpa using hx), List.length_cons, List.length_cons]; omega
    · rw [List.filter_cons_of_neg (by simpa using hx), List.filter_cons_of_pos (by simpa using hx), List.length_cons, List.length_cons]; omega

/-- Holder of any book. -/
theorem holA (n : Nat) (T N : Int) (L : List Ls) (ad : Ad) (tk : Int) (hn : n = L.length) (hl : n ≤ 1048576) (hst : ∀ q ∈ L, q.t.size ≤ 9223372036854775807) :
    ∃ (S : ByteArray) (C : Int), (∀ (W : World) (a : Option Addr) (c : Nat), RowG KLs W a L → GlobE W → Calls Tryz.prog 10 #[.agg #[.slice a n c, .int .i64 T, .int .i64 N], .agg #[.bool ad.s, .int .i64 ad.H.toInt, .int .i64 ad.L.toInt], .int .i64 tk] W fun e w' => e = .returned (.tuple #[.string S, .int .i64 C]) ∧ Below W.heap.size W w') ∧ (bkB L T N = true → ad.ok = true → C = hcdL L ad tk) := by
  cases hr : (bkB L T N && ad.ok)
  · exact ⟨⟨#[]⟩, 10, fun W a c e1 hg => iHolder_no a n c T N L ad tk W 10 (fun W' hb => placeHeld_form a n c T N L ad tk W' hn (e1.later hb) hl hst hr) hg, fun h1 h2 => by rw [h1, h2] at hr; cases hr⟩
  · cases hx : fxL L ad with
    | none => exact ⟨⟨#[]⟩, 13, fun W a c e1 hg => iHolder_no a n c T N L ad tk W 13 (fun W' hb => placeHeld_none a n c T N L ad tk W' hn (e1.later hb) hl hst hr hx) hg, fun _ _ => (hcd_none hx).symm⟩
    | some I =>
      obtain ⟨q, hq, _, _⟩ := fx_at hx
      by_cases hk : q.k = tk
      · exact ⟨q.t, 0, fun W a c e1 _ => iHolder_yes a n c T N L ad tk W I q hq hn e1 (fun W' hb => placeHeld_yes a n c T N L ad tk W' hn (e1.later hb) hl hst hr I q hx hq hk), fun _ _ => (hcd_of hx hq hk).symm⟩
      · exact ⟨⟨#[]⟩, 14, fun W a c e1 hg => iHolder_no a n c T N L ad tk W 14 (fun W' hb => placeHeld_fence a n c T N L ad tk W' hn (e1.later hb) hl hst hr I q hx hq hk) hg, fun _ _ => by unfold hcdL; rw [hx]; simp only [hq]; rw [if_neg hk]⟩
/-- Advance of any book. -/
theorem advA (n : Nat) (T N : Int) (L : List Ls) (now : Int) (hn : n = L.length) (hl : n ≤ 1048576) (hst : ∀ q ∈ L, q.t.size ≤ 9223372036854775807) :
    ∃ (L2 : List Ls) (n2 : Nat) (N2 : Int), n2 = L2.length ∧ n2 ≤ n ∧ (∀ q ∈ L2, q ∈ L) ∧ (∀ (W : World) (a : Option Addr) (c : Nat), RowG KLs W a L → Calls Tryz.prog 15 #[.agg #[.slice a n c, .int .i64 T, .int .i64 N], .int .i64 now] W fun e w' => ∃ a' c' v, e = .returned (.tuple #[.agg #[.slice a' n2 c', .int .i64 T, .int .i64 N2], v]) ∧ OwnG KLs 35 w' W.heap.size (.slice a' n2 c') L2 ∧ Below W.heap.size W w') ∧ ((bkB L T N && (decide (N < now) && decide (now ≤ 1000000000))) = true → L2 = stayL now L ∧ N2 = now) := by
  cases hr : (bkB L T N && (decide (N < now) && decide (now ≤ 1000000000)))
  · exact ⟨L, n, N, hn, Nat.le_refl _, fun q h => h, fun W a c e1 => (iAdv_no a n c T N L W hn e1 hl hst now hr).mono fun e w' ⟨a', c', b', d', h1, h2, _, _, h5⟩ => ⟨a', c', _, h1, h2, h5⟩, fun h => by cases h⟩
  · exact ⟨stayL now L, (stayL now L).length, now, rfl, by rw [hn]; exact (stay_len now L).1, fun q h => (List.mem_filter.1 h).1, fun W a c e1 => (iAdv_yes a n c T N L W hn e1 hl hst now hr).mono fun e w' ⟨a', c', b', d', h1, h2, _, _, h5⟩ => ⟨a', c', _, h1, h2, h5⟩, fun _ => ⟨rfl, rfl⟩⟩
/-- Renew of a lease of a right book, by the longest span. -/
theorem renA (n : Nat) (T N : Int) (ls : List Ls) (i : Nat) (q : Ls) (hq : ls[i]? = some q) (hn : n = ls.length) (hl : n ≤ 1048576) (hst : ∀ q ∈ ls, q.t.size ≤ 9223372036854775807) (hb : bkB ls T N = true) :
    ∃ (LS : List Ls) (D : Int), n = LS.length ∧ (∀ x ∈ LS, x.t.size ≤ 9223372036854775807) ∧ (∀ (W : World) (a : Option Addr) (c : Nat), RowG KLs W a ls → GlobE W → Calls Tryz.prog 11 #[.agg #[.slice a n c, .int .i64 T, .int .i64 N], .agg #[.bool q.a.s, .int .i64 q.a.H.toInt, .int .i64 q.a.L.toInt], .int .i64 q.k, .int .i64 1000] W fun e w' => ∃ a' c', e = .returned (.tuple #[.agg #[.slice a' n c', .int .i64 T, .int .i64 N], .int .i64 D]) ∧ OwnG KLs 35 w' W.heap.size (.slice a' n c') LS ∧ Below W.heap.size W w') ∧ (D = 0 → q.u < N + 1000 → bkB LS T N = true ∧ (⟨q.a, q.t, q.k, N + 1000⟩ : Ls) ∈ LS) := by
  have hm := List.mem_of_getElem? hq
  obtain ⟨_, _, hN, h4, _, _⟩ := bk_iff.1 hb
  have hok := okLs_ok (h4 q hm)
  have hr : (bkB ls T N && q.a.ok) = true := by rw [hb, hok]; rfl
  obtain ⟨J, hx, hJ⟩ := fx_of hb hm
  cases hs : spB N 1000
  · exact ⟨ls, 10, hn, hst, fun W a c e1 hg => iRen_no a n c T N ls q.a q.k 1000 W hn e1 hl 10 (fun W' a c _ => ptr_form a n c T N q.a q.k 1000 W' hs) hg, fun h => by cases h⟩
  · have hw := sp_wrap hN (span := 1000) (by rfl)
    have hs' := hs
    unfold spB at hs'
    rw [Bool.and_eq_true, hw.2, decide_eq_true_eq] at hs'
    refine ⟨ls.set J (upd N 1000 q), 0, by rw [List.length_set]; exact hn, fun x hx => ?_, fun W a c e1 hg => iRen_yes a n c T N ls q.a q.k 1000 W hn e1 hl hw.1 hw.2 J q hJ (fun W' a c e => ptr_else a n c T N q.a q.k 1000 W' hs _ _ (fun W2 hb2 => placeHeld_yes a n c T N ls q.a q.k W2 hn (e.later hb2) hl hst hr J q hx hJ rfl)), fun _ hu => ?_⟩
    · rcases List.mem_or_eq_of_mem_set hx with hx | hx
      · exact hst x hx
      · subst hx; exact hst q hm
    · have hup : upd N 1000 q = ⟨q.a, q.t, q.k, N + 1000⟩ := by unfold upd; rw [if_pos hu]
      rw [hup]
      exact ⟨bk_set hb hJ (by omega) hs'.2, List.mem_set (List.getElem?_eq_some_iff.1 hJ).1 _⟩
/-- A lease renewed, and time gone to its old end: who comes with it is good, where the span was longer. -/
theorem timeC (n : Nat) (T N : Int) (ls : List Ls) (i : Nat) (q : Ls) (hq : ls[i]? = some q) (hn : n = ls.length) (hl : n ≤ 1048576) (hst : ∀ q ∈ ls, q.t.size ≤ 9223372036854775807) (hb : bkB ls T N = true) :
    ∃ (LS : List Ls) (D : Int) (L2 : List Ls) (n2 : Nat) (N2 : Int) (S : ByteArray) (E : Int),
      (∀ (W : World) (a : Option Addr) (c : Nat), RowG KLs W a ls → GlobE W → Calls Tryz.prog 11 #[.agg #[.slice a n c, .int .i64 T, .int .i64 N], .agg #[.bool q.a.s, .int .i64 q.a.H.toInt, .int .i64 q.a.L.toInt], .int .i64 q.k, .int .i64 1000] W fun e w' => ∃ a' c', e = .returned (.tuple #[.agg #[.slice a' n c', .int .i64 T, .int .i64 N], .int .i64 D]) ∧ OwnG KLs 35 w' W.heap.size (.slice a' n c') LS ∧ Below W.heap.size W w') ∧
      (∀ (W : World) (a : Option Addr) (c : Nat), RowG KLs W a LS → Calls Tryz.prog 15 #[.agg #[.slice a n c, .int .i64 T, .int .i64 N], .int .i64 q.u] W fun e w' => ∃ a' c' v, e = .returned (.tuple #[.agg #[.slice a' n2 c', .int .i64 T, .int .i64 N2], v]) ∧ OwnG KLs 35 w' W.heap.size (.slice a' n2 c') L2 ∧ Below W.heap.size W w') ∧
      (∀ (W : World) (a : Option Addr) (c : Nat), RowG KLs W a L2 → GlobE W → Calls Tryz.prog 10 #[.agg #[.slice a n2 c, .int .i64 T, .int .i64 N2], .agg #[.bool q.a.s, .int .i64 q.a.H.toInt, .int .i64 q.a.L.toInt], .int .i64 q.k] W fun e w' => e = .returned (.tuple #[.string S, .int .i64 E]) ∧ Below W.heap.size W w') ∧
      (D = 0 → q.u < N + 1000 → E = 0) := by
  have hm := List.mem_of_getElem? hq
  obtain ⟨_, _, hN, h4, _, _⟩ := bk_iff.1 hb
  have hok := okLs_ok (h4 q hm)
  have hue := ok_end (h4 q hm)
  obtain ⟨LS, D, k1, k2, k3, k4⟩ := renA n T N ls i q hq hn hl hst hb
  obtain ⟨L2, n2, N2, a1, a2, a3, a4, a5⟩ := advA n T N LS q.u k1 hl k2
  obtain ⟨S, E, e1, e2⟩ := holA n2 T N2 L2 q.a q.k a1 (by omega) (fun x hx => k2 x (a3 x hx))
  refine ⟨LS, D, L2, n2, N2, S, E, k3, a4, e1, fun hD hu => ?_⟩
  obtain ⟨hbL, hin⟩ := k4 hD hu
  obtain ⟨rfl, rfl⟩ := a5 (by rw [hbL, decide_eq_true hue.1, decide_eq_true hue.2]; rfl)
  have hb2 := bk_stay hbL (Int.le_of_lt hue.1) hue.2
  have hin2 : (⟨q.a, q.t, q.k, N + 1000⟩ : Ls) ∈ stayL q.u LS := List.mem_filter.2 ⟨hin, by simpa using hu⟩
  obtain ⟨J, hx, hJ⟩ := fx_of hb2 hin2
  rw [e2 hb2 hok]
  exact hcd_of hx hJ rfl
/-- Behind the time: who comes with a lease is good just where it has not run out. -/
theorem stayC (T N : Int) (ls : List Ls) (now : Int) (n2 : Nat) (i : Nat) (q : Ls) (hq : ls[i]? = some q) (hn2 : n2 = (stayL now ls).length) (hl : n2 ≤ 1048576) (hst : ∀ q ∈ ls, q.t.size ≤ 9223372036854775807) (hb : bkB ls T N = true) (h0 : N < now) (h9 : now ≤ 1000000000) :
    ∃ (S : ByteArray) (C : Int), (∀ (W : World) (a : Option Addr) (c : Nat), RowG KLs W a (stayL now ls) → GlobE W → Calls Tryz.prog 10 #[.agg #[.slice a n2 c, .int .i64 T, .int .i64 now], .agg #[.bool q.a.s, .int .i64 q.a.H.toInt, .int .i64 q.a.L.toInt], .int .i64 q.k] W fun e w' => e = .returned (.tuple #[.string S, .int .i64 C]) ∧ Below W.heap.size W w') ∧ (C == 0) = decide (now < q.u) := by
  have hm := List.mem_of_getElem? hq
  obtain ⟨_, _, hN, h4, _, _⟩ := bk_iff.1 hb
  have hok := okLs_ok (h4 q hm)
  have hb2 := bk_stay hb (Int.le_of_lt h0) h9
  obtain ⟨S, C, e1, e2⟩ := holA n2 T now (stayL now ls) q.a q.k hn2 hl (fun x hx => hst x (List.mem_filter.1 hx).1)
  refine ⟨S, C, e1, ?_⟩
  rw [e2 hb2 hok]
  by_cases hu : now < q.u
  · obtain ⟨J, hx, hJ⟩ := fx_of hb2 (List.mem_filter.2 ⟨hm, by simpa using hu⟩ : q ∈ stayL now ls)
    rw [hcd_of hx hJ rfl, decide_eq_true hu]; rfl
  · rw [hcd_none (fx_gone hb hm hu), decide_eq_false hu]; rfl

end Go.Proofs.YtddnofonodgneaaGreatDoor
