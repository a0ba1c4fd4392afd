/-
  FirstAddr at every block and every row: what both answer.
-/
import Derived.Test.YtamocbkamjnonaaIFAddr
namespace Go.Proofs.Ytamocbkamjnonaa
open Go.RowKit

theorem left_subA : ∀ (k : Nat) (x : Sp) (l : List Sp), x.ok → x.n = k → ∀ t ∈ leftM k x l, t.s = x.s ∧ t.n ≤ k
  | 0, x, l, hx, hn, t, ht => by
      unfold leftM at ht
      split at ht
      · cases ht
      · rw [List.mem_singleton] at ht; subst ht; exact ⟨rfl, by omega⟩
  | k + 1, x, l, hx, hn, t, ht => by
      unfold leftM at ht
      split at ht
      · cases ht
      · split at ht
        · rw [List.mem_singleton] at ht; subst ht; exact ⟨rfl, by omega⟩
        · rcases List.mem_append.1 ht with h | h
          · have := left_subA k (lowS x k) _ (low_ok hx hn) rfl t h
            exact ⟨this.1, by omega⟩
          · have := left_subA k (uppS x k) _ (upp_ok hx hn) rfl t h
            exact ⟨this.1, by omega⟩

set_option maxHeartbeats 1000000 in
theorem sFA_no (p : Pf) (a : Option Addr) (n cap : Nat) (w : World) (h9 : n ≤ 9000000000) (hno : p.pok = false ∨ 300 < n) :
    Calls Try.prog 25 #[.agg #[.bool p.s, .int .i64 p.H.toInt, .int .i64 p.L.toInt, .int .i64 p.b], .slice a n cap] w fun e w' => e = .returned (.tuple #[.agg #[.bool false, .int .i64 0, .int .i64 0], .bool false]) ∧ Below w.heap.size w w' := by
  have hp := sPrefixOk_any p.s p.H p.L p.b
  have HP := hidP hp
  clear hp
  obtain ⟨os, hos⟩ : ∃ os : List Obj, os = [.cells #[.bool p.s, .int .i64 p.H.toInt, .int .i64 p.L.toInt, .int .i64 p.b] 37, .cells #[.bool false, .int .i64 0, .int .i64 0] 35] := ⟨_, rfl⟩
  obtain ⟨W, hW⟩ : ∃ W, W = allocs w os := ⟨_, rfl⟩
  have hWe : (w.alloc (.cells #[.bool p.s, .int .i64 p.H.toInt, .int .i64 p.L.toInt, .int .i64 p.b] 37)).alloc (.cells #[.bool false, .int .i64 0, .int .i64 0] 35) = W := by rw [hW, hos]; rfl
  have hb1 : Below w.heap.size w W := by rw [hW]; exact allocs_below os w
  have h1 : W.heap[w.heap.size + 1]? = some (.cells #[.bool false, .int .i64 0, .int .i64 0] 35) := by rw [hW]; exact allocs_at os w 1 _ (by rw [hos]; rfl)
  have HB1 := hidP hb1
  have H1 := hidP h1
  have HWe := hidP hWe
  clear hW hWe hos hb1 h1
  cases hpk : pokB p.s p.H p.L p.b
  · rw [hpk] at HP
    clear hno
    go_enter Try.func25, Try.ntmps25
    go_wp2_with fail
    rw [HWe.out]
    refine (HP.out W).mono ?_
    rintro e w2 ⟨rfl, hb2⟩
    have k1 := (hb2.block _ (lt_heap H1.out)).trans H1.out
    obtain ⟨⟨v0, v1, v2⟩, f0, f1, f2⟩ := of3 k1
    have lz := lt_heap k1
    have HZ := hidP (of3 (set3 (a' := .bool false) (b' := .int .i64 0) (c' := .int .i64 0) k1)).1
    have HB2 := hidP (HB1.out.trans (hb2.mono HB1.out.size))
    clear hb2 k1
    go_wp2_with fail
    obtain ⟨g0, g1, g2⟩ := HZ.out
    refine bodyPost_ret (v := .tuple #[.agg #[.bool false, .int .i64 0, .int .i64 0], .bool false]) (by simp [results, Try.results25, go_sem, g0, g1, g2]) rfl ⟨rfl, ?_⟩
    exact ((HB2.out.setCell (p := ⟨w.heap.size + 1, 0, none⟩) (Nat.le_succ _) _).setCell (p := ⟨w.heap.size + 1, 1, none⟩) (Nat.le_succ _) _).setCell (p := ⟨w.heap.size + 1, 2, none⟩) (Nat.le_succ _) _
  · rw [hpk] at HP
    have hl : 300 < n := by
      rcases hno with h | h
      · have h1 : pokB p.s p.H p.L p.b = false := h
        rw [hpk] at h1; cases h1
      · exact h
    have hl2 : decide (300 < (n : Int)) = true := decide_eq_true (by omega)
    clear hno
    go_enter Try.func25, Try.ntmps25
    go_wp2_with fail
    rw [HWe.out]
    refine (HP.out W).mono ?_
    rintro e w2 ⟨rfl, hb2⟩
    have k1 := (hb2.block _ (lt_heap H1.out)).trans H1.out
    obtain ⟨⟨v0, v1, v2⟩, f0, f1, f2⟩ := of3 k1
    have lz := lt_heap k1
    have HZ := hidP (of3 (set3 (a' := .bool false) (b' := .int .i64 0) (c' := .int .i64 0) k1)).1
    have HB2 := hidP (HB1.out.trans (hb2.mono HB1.out.size))
    clear hb2 k1
    go_wp2_with fail
    obtain ⟨g0, g1, g2⟩ := HZ.out
    refine bodyPost_ret (v := .tuple #[.agg #[.bool false, .int .i64 0, .int .i64 0], .bool false]) (by simp [results, Try.results25, go_sem, g0, g1, g2]) rfl ⟨rfl, ?_⟩
    exact ((HB2.out.setCell (p := ⟨w.heap.size + 1, 0, none⟩) (Nat.le_succ _) _).setCell (p := ⟨w.heap.size + 1, 1, none⟩) (Nat.le_succ _) _).setCell (p := ⟨w.heap.size + 1, 2, none⟩) (Nat.le_succ _) _

set_option maxHeartbeats 1000000 in
theorem iFA_big (p : Pf) (a : Option Addr) (n cap : Nat) (w : World) (h9 : n ≤ 9000000000) (hl : 300 < n) :
    Calls Try.prog 27 #[.agg #[.bool p.s, .int .i64 p.H.toInt, .int .i64 p.L.toInt, .int .i64 p.b], .slice a n cap] w fun e w' => e = .returned (.tuple #[.agg #[.bool false, .int .i64 0, .int .i64 0], .bool false]) ∧ Below w.heap.size w w' := by
  have hl2 : decide (300 < (n : Int)) = true := decide_eq_true (by omega)
  go_enter Try.func27, Try.ntmps27
  go_wp2_with fail
  refine bodyPost_ret (v := .tuple #[.agg #[.bool false, .int .i64 0, .int .i64 0], .bool false]) (by simp [results, Try.results27, go_sem]) rfl ⟨rfl, ?_⟩
  exact ((Below.refl _ w).alloc (Nat.le_refl _) _).alloc (by simp) _

def Ad.sp (u : Ad) : Sp := ⟨u.s, u.H, u.L, 0⟩
theorem takA_sp (p : Pf) (us : List Ad) : takA p us = ((us.filter (hadP p)).map Ad.sp).map Sp.pre := by
  unfold takA
  rw [List.map_map]
  refine List.map_congr_left fun u _ => ?_
  show (⟨u.s, u.H, u.L, (wd u.s : Int)⟩ : Pf) = ⟨u.s, u.H, u.L, (wd u.s : Int) - ((0 : Nat) : Int)⟩
  congr 1
theorem had_ok {p : Pf} {u : Ad} (h : hadP p u = true) : u.sp.ok := by
  unfold hadP hadB at h
  rw [Bool.and_eq_true, Bool.and_eq_true] at h
  exact ⟨h.2.1, Nat.zero_le _, c0H _, c0L _⟩

/-- An address that is the span's by its number is right. -/
theorem num_ok {x : Sp} (hx : x.ok) (u : Ad) (hs : u.s = x.s) (m : Nat) (hm : m < 2 ^ x.n) (he : u.adr = x.adr + m) : okB u.s u.H.toInt u.L.toInt = true := by
  have h1 := adr_end hx
  cases hus : u.s
  · have hw : wd x.s = 32 := by rw [← hs, hus]; rfl
    rw [hw] at h1
    have e := adrN_eq u.H u.L
    have e2 : u.adr = adrN u.H u.L := rfl
    have hL := u.L.isLt
    have h0 : u.H.toNat = 0 := by omega
    have h00 : u.H = 0 := BitVec.eq_of_toNat_eq h0
    rw [h00]
    exact okB_low u.L (by omega)
  · exact okB_t _ _

theorem left_room (x : Sp) (hx : x.ok) (T : List Sp) : partL x.pre.s (wd x.s : Int) (leftM x.n x T) = leftM x.n x T := by
  unfold partL
  have e : x.pre.s = x.s := rfl
  rw [e, if_neg (by omega), List.filter_eq_self]
  intro t ht
  have := left_subA x.n x T hx rfl t ht
  unfold roomP
  rw [this.1]
  exact decide_eq_true (by omega)

/-- What the program's FirstFree finds of single addresses is what FirstAddr is to answer. -/
theorem left_ans (x : Sp) (hx : x.ok) (us : List Ad) : ∃ q ok, frsV (wd x.s : Int) (leftM x.n x ((us.filter (hadP x.pre)).map Ad.sp)) = .tuple #[.agg #[.bool (Pf.s q), .int .i64 q.H.toInt, .int .i64 q.L.toInt, .int .i64 q.b], .bool ok] ∧ FAns x us (.tuple #[.agg #[.bool q.s, .int .i64 q.H.toInt, .int .i64 q.L.toInt], .bool ok]) := by
  have hh := left_head x.n x ((us.filter (hadP x.pre)).map Ad.sp) hx rfl (fun t ht => by
    obtain ⟨u, _, rfl⟩ := List.mem_map.1 ht
    rfl)
  have up : ∀ {m}, (∃ t ∈ (us.filter (hadP x.pre)).map Ad.sp, t.s = x.s ∧ t.adr = m) → ∃ u ∈ us, u.s = x.s ∧ u.adr = m := fun ⟨t, ht, h⟩ => by
    obtain ⟨u, hu, rfl⟩ := List.mem_map.1 ht
    exact ⟨u, (List.mem_filter.1 hu).1, h⟩
  have dn : ∀ u ∈ us, u.s = x.s → ∀ m, m < 2 ^ x.n → u.adr = x.adr + m → u.sp ∈ (us.filter (hadP x.pre)).map Ad.sp := fun u hu hs m hm he => by
    refine List.mem_map.2 ⟨u, List.mem_filter.2 ⟨hu, ?_⟩, rfl⟩
    show hadB x.s x.H x.L ((wd x.s : Int) - x.n) u.s u.H u.L = true
    rw [had_num hx u.s u.H u.L (num_ok hx u hs m hm he)]
    have e : adrN u.H u.L = u.adr := rfl
    exact decide_eq_true ⟨hs, by omega, by omega⟩
  cases hl : leftM x.n x ((us.filter (hadP x.pre)).map Ad.sp) with
  | nil => exact ⟨⟨false, 0, 0, 0⟩, false, rfl, Or.inr ⟨fun m hm => up (hh.1 hl m hm), rfl⟩⟩
  | cons z r =>
    obtain ⟨hs, m, hm, he, hfr, hbe⟩ := hh.2 z r hl
    refine ⟨⟨z.s, z.H, z.L, wd x.s⟩, true, rfl, Or.inl ⟨z.H, z.L, m, hm, he, fun u hu hus hue => ?_, fun j hj => up (hbe j hj), by rw [hs]⟩⟩
    exact hfr u.sp (dn u hu hus m hm hue) hus hue

theorem iFA_yes (x : Sp) (hx : x.ok) (us : List Ad) (hl : us.length ≤ 300) : ∃ q ok, FAns x us (.tuple #[.agg #[.bool (Ad.s q), .int .i64 q.H.toInt, .int .i64 q.L.toInt], .bool ok]) ∧
    ∀ (a : Option Addr) (cap : Nat) (w : World), RowA w a us → Calls Try.prog 27 #[.agg #[.bool x.s, .int .i64 x.H.toInt, .int .i64 x.L.toInt, .int .i64 ((wd x.s : Int) - (x.n : Int))], .slice a us.length cap] w fun e w' => e = .returned (.tuple #[.agg #[.bool q.s, .int .i64 q.H.toInt, .int .i64 q.L.toInt], .bool ok]) ∧ Below w.heap.size w w' := by
  obtain ⟨q, ok, hv, hf⟩ := left_ans x hx us
  have hT : ∀ t ∈ (us.filter (hadP x.pre)).map Ad.sp, t.ok := fun t ht => by
    obtain ⟨u, hu, rfl⟩ := List.mem_map.1 ht
    exact had_ok (List.mem_filter.1 hu).2
  have hTl : ((us.filter (hadP x.pre)).map Ad.sp).length ≤ 300 := by rw [List.length_map]; exact Nat.le_trans (List.length_filter_le _ _) hl
  refine ⟨⟨q.s, q.H, q.L⟩, ok, hf, fun a cap w hB => ?_⟩
  refine iFA x.pre a us.length cap us rfl w hB hl q ok _ rfl fun wx a' c' hR => ?_
  rw [takA_sp] at hR ⊢
  rw [List.length_map]
  have h := iFirst x.pre a' ((us.filter (hadP x.pre)).map Ad.sp).length c' (wd x.s : Int) wx _ (part_gives x.pre a' _ c' (wd x.s : Int) wx _ (left_yes x hx a' c' _ hT wx hR hTl))
  rw [left_room x hx, hv] at h
  exact h

theorem iFA_none (p : Pf) (hp : p.pok = false) (us : List Ad) (hl : us.length ≤ 300) (a : Option Addr) (cap : Nat) (w : World) (hB : RowA w a us) :
    Calls Try.prog 27 #[.agg #[.bool p.s, .int .i64 p.H.toInt, .int .i64 p.L.toInt, .int .i64 p.b], .slice a us.length cap] w fun e w' => e = .returned (.tuple #[.agg #[.bool false, .int .i64 0, .int .i64 0], .bool false]) ∧ Below w.heap.size w w' := by
  have ht : takA p us = [] := by
    unfold takA
    rw [List.map_eq_nil_iff, List.filter_eq_nil_iff]
    intro u _ h
    unfold hadP hadB at h
    have h1 : pokB p.s p.H p.L p.b = false := hp
    rw [h1] at h; cases h
  refine iFA p a us.length cap us rfl w hB hl ⟨false, 0, 0, 0⟩ false 0 (by rw [ht]; rfl) fun wx a' c' hR => ?_
  have hP := part_gives p a' 0 c' (wd p.s : Int) wx [] (left_no p a' c' [] wx (Row.nil _ _) (by simp) (by rw [hp, Bool.false_and]))
  rw [show partL p.s (wd p.s : Int) [] = [] by unfold partL; split <;> rfl] at hP
  exact iFirst p a' 0 c' (wd p.s : Int) wx [] hP

end Go.Proofs.Ytamocbkamjnonaa
