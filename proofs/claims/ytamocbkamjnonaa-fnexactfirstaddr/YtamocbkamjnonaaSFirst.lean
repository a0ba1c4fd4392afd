/-
  The specification's FirstFree: of what is left the first with room, or none.
-/
import Derived.Test.YtamocbkamjnonaaSAsk
import Derived.Test.YtamocbkamjnonaaIRoom
namespace Go.Proofs.Ytamocbkamjnonaa
open Go.RowKit

theorem left_sub : ∀ (k : Nat) (x : Sp) (l : List Sp), x.ok → x.n = k → ∀ t ∈ leftM k x l, t.s = x.s ∧ t.n ≤ k
  | 0, x, l, hx, hn, t, ht => by
      unfold leftM at ht
      split at ht
      · cases ht
      · rw [List.mem_singleton] at ht; subst ht; exact ⟨rfl, by omega⟩
  | k + 1, x, l, hx, hn, t, ht => by
      unfold leftM at ht
      split at ht
      · cases ht
      · split at ht
        · rw [List.mem_singleton] at ht; subst ht; exact ⟨rfl, by omega⟩
        · rcases List.mem_append.1 ht with h | h
          · have := left_sub k (lowS x k) _ (low_ok hx hn) rfl t h
            exact ⟨this.1, by omega⟩
          · have := left_sub k (uppS x k) _ (upp_ok hx hn) rfl t h
            exact ⟨this.1, by omega⟩

/-- What partsFor hands out of what is left, where bits are asked as told, and where not. -/
theorem part_yes {x : Sp} {xs : List Sp} {bits : Int} (h : askB x.pre (xs.map Sp.pre) bits = true) : partL x.pre.s bits (leftM x.n x xs) = (leftM x.n x xs).filter (roomP bits) := by
  unfold askB at h
  rw [Bool.and_eq_true, decide_eq_true_eq] at h
  have h2 := h.2.2
  unfold partL
  rw [if_neg (by omega)]
theorem part_not {x : Sp} (hx : x.ok) {xs : List Sp} (hr : rightP (xs.map Sp.pre) = true) {bits : Int} (h : askB x.pre (xs.map Sp.pre) bits = false) : partL x.pre.s bits (leftM x.n x xs) = [] := by
  have hp : x.pre.pok = true := hx.pok
  unfold askB at h
  rw [hp, hr, Bool.true_and, Bool.true_and, decide_eq_false_iff_not] at h
  unfold partL
  split
  · rfl
  · rename_i hw
    rw [List.filter_eq_nil_iff]
    intro t ht hc
    have hs := left_sub x.n x xs hx rfl t ht
    unfold roomP at hc
    rw [decide_eq_true_eq, hs.1] at hc
    have h2 := hs.2
    apply h
    constructor
    · show (wd x.s : Int) - x.n ≤ bits
      omega
    · show bits ≤ (wd x.s : Int)
      have : ¬ (wd x.s : Int) < bits := hw
      omega

theorem room_snoc (bits : Int) (ys : List Sp) (i : Nat) (t : Sp) (h : ys[i]? = some t) (h0 : (ys.take i).filter (roomP bits) = []) (h1 : roomP bits t = false) : (ys.take (i + 1)).filter (roomP bits) = [] := by
  rw [List.take_add_one, h, List.filter_append, h0]
  simp [h1]
theorem frs_at (bits : Int) (ys : List Sp) (i : Nat) (t : Sp) (h : ys[i]? = some t) (h0 : (ys.take i).filter (roomP bits) = []) (h1 : roomP bits t = true) : frsV bits (ys.filter (roomP bits)) = .tuple #[.agg #[.bool t.s, .int .i64 t.H.toInt, .int .i64 t.L.toInt, .int .i64 bits], .bool true] := by
  have e : ys = ys.take i ++ t :: ys.drop (i + 1) := by
    obtain ⟨hi, rfl⟩ := List.getElem?_eq_some_iff.1 h
    rw [← List.drop_eq_getElem_cons hi, List.take_append_drop]
  rw [e, List.filter_append, h0, List.nil_append, List.filter_cons_of_pos h1]
  rfl

set_option maxRecDepth 10000 in
set_option maxHeartbeats 2000000 in
theorem sFirst_no (p : Pf) (a : Option Addr) (cap : Nat) (ps : List Pf) (bits : Int) (w : World) (hB : Row w a ps) (hl : ps.length ≤ 1048576) (hno : askB p ps bits = false) :
    Calls Try.prog 19 #[.agg #[.bool p.s, .int .i64 p.H.toInt, .int .i64 p.L.toInt, .int .i64 p.b], .slice a ps.length cap, .int .i64 bits] w fun e w' => e = .returned (frsV bits []) ∧ Below w.heap.size w w' := by
  have HA : Hid (∀ (wx : World) (_ : Row wx a ps), Calls Try.prog 46 #[.agg #[.bool p.s, .int .i64 p.H.toInt, .int .i64 p.L.toInt, .int .i64 p.b], .slice a ps.length cap, .int .i64 bits] wx fun e w' => e = .returned (.bool false) ∧ Below wx.heap.size wx w') := hidP fun wx h => by
    have := l4Asked_any p a cap ps bits wx h hl
    rw [hno] at this; exact this
  have HB := hidP hB
  obtain ⟨n, hn⟩ : ∃ n, n = ps.length := ⟨_, rfl⟩
  rw [← hn] at hl HA ⊢
  clear hB hn hno
  go_enter Try.func19, Try.ntmps19
  go_wp2_with fail
  obtain ⟨os, hos⟩ : ∃ os : List Obj, os = [.cells #[.bool p.s, .int .i64 p.H.toInt, .int .i64 p.L.toInt, .int .i64 p.b] 37, .cells #[.bool false, .int .i64 0, .int .i64 0, .int .i64 0] 37] := ⟨_, rfl⟩
  obtain ⟨W, hW⟩ : ∃ W, W = allocs w os := ⟨_, rfl⟩
  have hWe : (w.alloc (.cells #[.bool p.s, .int .i64 p.H.toInt, .int .i64 p.L.toInt, .int .i64 p.b] 37)).alloc (.cells #[.bool false, .int .i64 0, .int .i64 0, .int .i64 0] 37) = W := by rw [hW, hos]; rfl
  have hb1 : Below w.heap.size w W := by rw [hW]; exact allocs_below os w
  have h1 : W.heap[w.heap.size + 1]? = some (.cells #[.bool false, .int .i64 0, .int .i64 0, .int .i64 0] 37) := by rw [hW]; exact allocs_at os w 1 _ (by rw [hos]; rfl)
  rw [hWe]
  have HB1 := hidP hb1
  clear hW hWe hos hb1
  refine (HA.out W (HB.out.later HB1.out)).mono ?_
  rintro e w2 ⟨rfl, hb2⟩
  have k1 := (hb2.block _ (lt_heap h1)).trans h1
  obtain ⟨⟨v0, v1, v2, v3⟩, f0, f1, f2, f3⟩ := of4 k1
  have lz := lt_heap k1
  obtain ⟨⟨g0, g1, g2, g3⟩, _⟩ := of4 (set4 (a' := .bool false) (b' := .int .i64 0) (c' := .int .i64 0) (d' := .int .i64 0) k1)
  have HG := hidP (And.intro g0 (And.intro g1 (And.intro g2 g3)))
  have HB2 := hidP (HB1.out.trans (hb2.mono HB1.out.size))
  clear h1 k1 hb2 g0 g1 g2 g3
  go_wp2_with fail
  obtain ⟨g0, g1, g2, g3⟩ := HG.out
  refine bodyPost_ret (v := .tuple #[.agg #[.bool false, .int .i64 0, .int .i64 0, .int .i64 0], .bool false]) (by simp [results, Try.results19, go_sem, g0, g1, g2, g3]) rfl ⟨rfl, ?_⟩
  exact (((HB2.out.setCell (p := ⟨w.heap.size + 1, 0, none⟩) (Nat.le_succ _) _).setCell (p := ⟨w.heap.size + 1, 1, none⟩) (Nat.le_succ _) _).setCell (p := ⟨w.heap.size + 1, 2, none⟩) (Nat.le_succ _) _).setCell (p := ⟨w.heap.size + 1, 3, none⟩) (Nat.le_succ _) _

set_option maxRecDepth 10000 in
set_option maxHeartbeats 2000000 in
theorem sFirst_yes (x : Sp) (hx : x.ok) (a : Option Addr) (cap : Nat) (xs : List Sp) (hxs : ∀ t ∈ xs, t.ok) (bits : Int) (w : World) (hB : Row w a (xs.map Sp.pre)) (hl : xs.length ≤ 300) (hask : askB x.pre (xs.map Sp.pre) bits = true) :
    Calls Try.prog 19 #[.agg #[.bool x.s, .int .i64 x.H.toInt, .int .i64 x.L.toInt, .int .i64 ((wd x.s : Int) - (x.n : Int))], .slice a xs.length cap, .int .i64 bits] w fun e w' => e = .returned (frsV bits ((leftM x.n x xs).filter (roomP bits))) ∧ Below w.heap.size w w' := by
  have HA : Hid (∀ (wx : World) (_ : Row wx a (xs.map Sp.pre)), Calls Try.prog 46 #[.agg #[.bool x.s, .int .i64 x.H.toInt, .int .i64 x.L.toInt, .int .i64 ((wd x.s : Int) - (x.n : Int))], .slice a xs.length cap, .int .i64 bits] wx fun e w' => e = .returned (.bool true) ∧ Below wx.heap.size wx w') := hidP fun wx h => by
    have h1 := l4Asked_any x.pre a cap (xs.map Sp.pre) bits wx h (by rw [List.length_map]; omega)
    rw [hask, List.length_map] at h1; exact h1
  have HL : Hid (∀ (wx : World) (_ : Row wx a (xs.map Sp.pre)), _) := hidP fun wx h => l2Left_all x.n x hx rfl xs hxs hl a cap wx h
  have hlen := left_le hx xs hl
  have HB := hidP hB
  obtain ⟨ys, hys⟩ : ∃ ys, ys = leftM x.n x xs := ⟨_, rfl⟩
  rw [← hys] at HL hlen ⊢
  obtain ⟨n, hn⟩ : ∃ n, n = xs.length := ⟨_, rfl⟩
  rw [← hn] at hl HA HL ⊢
  obtain ⟨m, hm⟩ : ∃ m, m = ys.length := ⟨_, rfl⟩
  rw [← hm] at HL hlen
  have HM := hidP hm
  clear hB hn hask hx hxs hys hm
  go_enter Try.func19, Try.ntmps19
  go_wp2_with fail
  obtain ⟨os, hos⟩ : ∃ os : List Obj, os = [.cells #[.bool x.s, .int .i64 x.H.toInt, .int .i64 x.L.toInt, .int .i64 ((wd x.s : Int) - (x.n : Int))] 37, .cells #[.bool false, .int .i64 0, .int .i64 0, .int .i64 0] 37] := ⟨_, rfl⟩
  obtain ⟨W, hW⟩ : ∃ W, W = allocs w os := ⟨_, rfl⟩
  have hWe : (w.alloc (.cells #[.bool x.s, .int .i64 x.H.toInt, .int .i64 x.L.toInt, .int .i64 ((wd x.s : Int) - (x.n : Int))] 37)).alloc (.cells #[.bool false, .int .i64 0, .int .i64 0, .int .i64 0] 37) = W := by rw [hW, hos]; rfl
  have hb1 : Below w.heap.size w W := by rw [hW]; exact allocs_below os w
  have hsz : W.heap.size = w.heap.size + 2 := by rw [hW, allocs_size, hos]; rfl
  have h0 : W.heap[w.heap.size]? = some (.cells #[.bool x.s, .int .i64 x.H.toInt, .int .i64 x.L.toInt, .int .i64 ((wd x.s : Int) - (x.n : Int))] 37) := by rw [hW]; exact allocs_at os w 0 _ (by rw [hos]; rfl)
  have h1 : W.heap[w.heap.size + 1]? = some (.cells #[.bool false, .int .i64 0, .int .i64 0, .int .i64 0] 37) := by rw [hW]; exact allocs_at os w 1 _ (by rw [hos]; rfl)
  rw [hWe]
  have HB1 := hidP hb1
  clear hW hWe hos hb1
  refine (HA.out W (HB.out.later HB1.out)).mono ?_
  rintro e w2 ⟨rfl, hb2⟩
  have j0 := (hb2.block _ (lt_heap h0)).trans h0
  have j1 := (hb2.block _ (lt_heap h1)).trans h1
  obtain ⟨⟨d0, d1, d2, d3⟩, _⟩ := of4 j0
  have HJ1 := hidP j1
  have lz0 := lt_heap j0
  have HB2 := hidP (HB1.out.trans (hb2.mono HB1.out.size))
  clear h0 h1 j0 j1 hb2
  go_wp2_with fail
  refine (HL.out w2 (HB.out.later HB2.out)).mono ?_
  rintro e w4 ⟨a4, c4, rfl, ho4, hb4⟩
  have k1 := (hb4.block _ (lt_heap HJ1.out)).trans HJ1.out
  obtain ⟨⟨v0, v1, v2, v3⟩, f0, f1, f2, f3⟩ := of4 k1
  have lz := lt_heap k1
  have HS4 : Hid (∀ q : Pf, (((((w4.setCell ⟨w.heap.size + 1, 0, none⟩ (.bool q.s)).setCell ⟨w.heap.size + 1, 1, none⟩ (.int .i64 q.H.toInt)).setCell ⟨w.heap.size + 1, 2, none⟩ (.int .i64 q.L.toInt)).setCell ⟨w.heap.size + 1, 3, none⟩ (.int .i64 q.b)).heap[w.heap.size + 1]? = some (.cells #[.bool q.s, .int .i64 q.H.toInt, .int .i64 q.L.toInt, .int .i64 q.b] 37))) := hidP fun q => set4 k1
  have HZ4 := hidP (of4 (set4 (a' := .bool false) (b' := .int .i64 0) (c' := .int .i64 0) (d' := .int .i64 0) k1)).1
  have HR4 := hidP ho4.row
  have HB4 := hidP (HB2.out.trans (hb4.mono HB2.out.size))
  have HE : Hid (∀ q : Pf, Below w.heap.size w ((((w4.setCell ⟨w.heap.size + 1, 0, none⟩ (.bool q.s)).setCell ⟨w.heap.size + 1, 1, none⟩ (.int .i64 q.H.toInt)).setCell ⟨w.heap.size + 1, 2, none⟩ (.int .i64 q.L.toInt)).setCell ⟨w.heap.size + 1, 3, none⟩ (.int .i64 q.b))) := hidP fun q => (((HB4.out.setCell (p := ⟨w.heap.size + 1, 0, none⟩) (Nat.le_succ _) _).setCell (p := ⟨w.heap.size + 1, 1, none⟩) (Nat.le_succ _) _).setCell (p := ⟨w.heap.size + 1, 2, none⟩) (Nat.le_succ _) _).setCell (p := ⟨w.heap.size + 1, 3, none⟩) (Nat.le_succ _) _
  clear ho4 hb4 k1 d0 d1 d2 d3 lz0 HJ1
  go_wp2_with fail
  go_loopw [9] (fun t9 wr => ∃ i : Nat, i ≤ m ∧ t9 = .int .i64 i ∧ (ys.take i).filter (roomP bits) = [] ∧ w4 = wr) (fun t9 _ => m - (intOf t9).toNat)
  case atStart => exact ⟨0, Nat.zero_le _, rfl, by simp, rfl⟩
  case round =>
    obtain ⟨i, hi, rfl, hfl, rfl⟩ := hrel
    have HF := hidP hfl
    clear hfl
    by_cases hlt : i < m
    · obtain ⟨q, o, t, rfl, hq, ht, e0, e1, e2, e3⟩ := HR4.out.pre i (by rw [← HM.out]; exact hlt)
      have HT := hidP ht
      clear ht
      cases hr : decide ((wd t.s : Int) - t.n ≤ bits)
      · have HN := hidP (room_snoc bits ys i t HT.out HF.out hr)
        go_wp2_with fail
        go_roundw
        case rel => exact ⟨i + 1, by omega, by go_num, HN.out, by first | rfl | trivial⟩
        case measure => simp [intOf]; omega
      · have HN := hidP (frs_at bits ys i t HT.out HF.out hr)
        go_wp2_with fail
        obtain ⟨⟨g0, g1, g2, g3⟩, _⟩ := of4 (HS4.out ⟨t.s, t.H, t.L, bits⟩)
        refine bodyPost_ret (v := .tuple #[.agg #[.bool t.s, .int .i64 t.H.toInt, .int .i64 t.L.toInt, .int .i64 bits], .bool true]) (by simp [results, Try.results19, go_sem, g0, g1, g2, g3]) rfl ⟨by rw [HN.out], HE.out ⟨t.s, t.H, t.L, bits⟩⟩
    · have hin : i = m := by omega
      subst hin
      have hfe : ys.filter (roomP bits) = [] := by have := HF.out; rw [HM.out, List.take_length] at this; exact this
      have HN := hidP hfe
      clear hfe
      go_wp2_with fail
      obtain ⟨g0, g1, g2, g3⟩ := HZ4.out
      refine bodyPost_ret (v := .tuple #[.agg #[.bool false, .int .i64 0, .int .i64 0, .int .i64 0], .bool false]) (by simp [results, Try.results19, go_sem, g0, g1, g2, g3]) rfl ⟨by rw [HN.out]; rfl, ?_⟩
      exact (((HB4.out.setCell (p := ⟨w.heap.size + 1, 0, none⟩) (Nat.le_succ _) _).setCell (p := ⟨w.heap.size + 1, 1, none⟩) (Nat.le_succ _) _).setCell (p := ⟨w.heap.size + 1, 2, none⟩) (Nat.le_succ _) _).setCell (p := ⟨w.heap.size + 1, 3, none⟩) (Nat.le_succ _) _

end Go.Proofs.Ytamocbkamjnonaa
