/-
  The specification's FreeCount.
-/
import Derived.Test.YtamocbkamjnonaaICnt
namespace Go.Proofs.Ytamocbkamjnonaa
open Go.RowKit

theorem part_bd {x : Sp} (hx : x.ok) {xs : List Sp} {bits : Int} : ∀ z ∈ partL x.pre.s bits (leftM x.n x xs), 0 ≤ bits - ((wd z.s : Int) - z.n) ∧ bits - ((wd z.s : Int) - z.n) ≤ 128 := by
  intro z hz
  unfold partL at hz
  split at hz
  · cases hz
  · rename_i hw
    have hm := List.mem_filter.1 hz
    have hr := hm.2
    unfold roomP at hr
    rw [decide_eq_true_eq] at hr
    have ho := (left_ok x.n x xs hx rfl z hm.1).2.1
    have hs := (left_sub x.n x xs hx rfl z hm.1).1
    have hw2 : ¬ (wd x.s : Int) < bits := hw
    have := wd_le' x.s
    rw [hs] at hr ho ⊢
    omega

theorem room_skip (bits : Int) (ys : List Sp) (i : Nat) (t : Sp) (h : ys[i]? = some t) (h1 : roomP bits t = false) : (ys.take (i + 1)).filter (roomP bits) = (ys.take i).filter (roomP bits) := by
  rw [List.take_add_one, h, List.filter_append]
  simp [h1]
theorem room_take (bits : Int) (ys : List Sp) (i : Nat) (t : Sp) (h : ys[i]? = some t) (h1 : roomP bits t = true) : (ys.take (i + 1)).filter (roomP bits) = (ys.take i).filter (roomP bits) ++ [t] := by
  rw [List.take_add_one, h, List.filter_append]
  simp [h1]
theorem cnt_full (bits : Int) (ys : List Sp) (i : Nat) (t : Sp) (h : ys[i]? = some t) (h1 : roomP bits t = true) (hf : 4611686018427387904 ≤ cnt bits ((ys.take i).filter (roomP bits)) + fitN (bits - ((wd t.s : Int) - t.n))) : cnt bits (ys.filter (roomP bits)) = 4611686018427387904 := by
  have e : ys = ys.take (i + 1) ++ ys.drop (i + 1) := (List.take_append_drop _ _).symm
  have hb := cnt_bd bits ((ys.take i).filter (roomP bits))
  rw [e, List.filter_append, room_take bits ys i t h h1]
  have e2 : cnt bits ((ys.take i).filter (roomP bits) ++ [t]) = 4611686018427387904 := by
    rw [cnt_snoc]; unfold cnt1; omega
  show List.foldl (cnt1 bits) 0 (_ ++ _) = _
  rw [List.foldl_append]
  have e3 : List.foldl (cnt1 bits) 0 ((ys.take i).filter (roomP bits) ++ [t]) = 4611686018427387904 := e2
  rw [e3]
  have := cntF_bd bits ((ys.drop (i + 1)).filter (roomP bits)) 4611686018427387904 (by omega) (by omega)
  omega
theorem cnt_more (bits : Int) (ys : List Sp) (i : Nat) (t : Sp) (h : ys[i]? = some t) (h1 : roomP bits t = true) (hf : cnt bits ((ys.take i).filter (roomP bits)) + fitN (bits - ((wd t.s : Int) - t.n)) ≤ 4611686018427387904) : cnt bits ((ys.take (i + 1)).filter (roomP bits)) = cnt bits ((ys.take i).filter (roomP bits)) + fitN (bits - ((wd t.s : Int) - t.n)) := by
  rw [room_take bits ys i t h h1, cnt_snoc]
  unfold cnt1
  omega

set_option maxRecDepth 10000 in
set_option maxHeartbeats 2000000 in
theorem sCnt_no (p : Pf) (a : Option Addr) (cap : Nat) (ps : List Pf) (bits : Int) (w : World) (hB : Row w a ps) (hl : ps.length ≤ 1048576) (hno : askB p ps bits = false) :
    Calls Try.prog 22 #[.agg #[.bool p.s, .int .i64 p.H.toInt, .int .i64 p.L.toInt, .int .i64 p.b], .slice a ps.length cap, .int .i64 bits] w fun e w' => e = .returned (.int .i64 0) ∧ Below w.heap.size w w' := by
  have HA : Hid (∀ (wx : World) (_ : Row wx a ps), Calls Try.prog 46 #[.agg #[.bool p.s, .int .i64 p.H.toInt, .int .i64 p.L.toInt, .int .i64 p.b], .slice a ps.length cap, .int .i64 bits] wx fun e w' => e = .returned (.bool false) ∧ Below wx.heap.size wx w') := hidP fun wx h => by
    have := l4Asked_any p a cap ps bits wx h hl
    rw [hno] at this; exact this
  have HB := hidP hB
  obtain ⟨n, hn⟩ : ∃ n, n = ps.length := ⟨_, rfl⟩
  rw [← hn] at hl HA ⊢
  clear hB hn hno
  go_enter Try.func22, Try.ntmps22
  go_wp2_with fail
  have HB1 := hidP ((Below.refl _ w).alloc (Nat.le_refl _) (.cells #[.bool p.s, .int .i64 p.H.toInt, .int .i64 p.L.toInt, .int .i64 p.b] 37))
  refine (HA.out _ (HB.out.later HB1.out)).mono ?_
  rintro e w2 ⟨rfl, hb2⟩
  have HB2 := hidP (HB1.out.trans (hb2.mono HB1.out.size))
  clear hb2
  go_wp2_with fail
  go_ret
  exact ⟨rfl, HB2.out⟩

set_option maxRecDepth 10000 in
set_option maxHeartbeats 2000000 in
theorem sCnt_yes (x : Sp) (hx : x.ok) (a : Option Addr) (cap : Nat) (xs : List Sp) (hxs : ∀ t ∈ xs, t.ok) (bits : Int) (w : World) (hB : Row w a (xs.map Sp.pre)) (hl : xs.length ≤ 300) (hask : askB x.pre (xs.map Sp.pre) bits = true) :
    Calls Try.prog 22 #[.agg #[.bool x.s, .int .i64 x.H.toInt, .int .i64 x.L.toInt, .int .i64 ((wd x.s : Int) - (x.n : Int))], .slice a xs.length cap, .int .i64 bits] w fun e w' => e = .returned (.int .i64 (cnt bits ((leftM x.n x xs).filter (roomP bits)))) ∧ Below w.heap.size w w' := by
  have HA : Hid (∀ (wx : World) (_ : Row wx a (xs.map Sp.pre)), Calls Try.prog 46 #[.agg #[.bool x.s, .int .i64 x.H.toInt, .int .i64 x.L.toInt, .int .i64 ((wd x.s : Int) - (x.n : Int))], .slice a xs.length cap, .int .i64 bits] wx fun e w' => e = .returned (.bool true) ∧ Below wx.heap.size wx w') := hidP fun wx h => by
    have h1 := l4Asked_any x.pre a cap (xs.map Sp.pre) bits wx h (by rw [List.length_map]; omega)
    rw [hask, List.length_map] at h1; exact h1
  have HL : Hid (∀ (wx : World) (_ : Row wx a (xs.map Sp.pre)), _) := hidP fun wx h => l2Left_all x.n x hx rfl xs hxs hl a cap wx h
  have hlen := left_le hx xs hl
  have hbd : ∀ t ∈ leftM x.n x xs, -128 ≤ bits - ((wd t.s : Int) - t.n) ∧ bits - ((wd t.s : Int) - t.n) ≤ 128 := fun t ht => by
    have ho := (left_ok x.n x xs hx rfl t ht).2.1
    have hs := (left_sub x.n x xs hx rfl t ht).1
    unfold askB at hask
    rw [Bool.and_eq_true, decide_eq_true_eq] at hask
    have h1 : (wd x.s : Int) - x.n ≤ bits := hask.2.1
    have h2 : bits ≤ (wd x.s : Int) := hask.2.2
    have h3 := wd_le' x.s
    have h4 := hx.2.1
    rw [hs] at ho ⊢
    omega
  have HBd := hidP hbd
  have HB := hidP hB
  obtain ⟨ys, hys⟩ : ∃ ys, ys = leftM x.n x xs := ⟨_, rfl⟩
  rw [← hys] at HL hlen HBd ⊢
  obtain ⟨n, hn⟩ : ∃ n, n = xs.length := ⟨_, rfl⟩
  rw [← hn] at hl HA HL ⊢
  obtain ⟨m, hm⟩ : ∃ m, m = ys.length := ⟨_, rfl⟩
  rw [← hm] at HL hlen
  have HM := hidP hm
  clear hB hn hask hx hxs hys hm hbd
  go_enter Try.func22, Try.ntmps22
  go_wp2_with fail
  have hbx := box_cells w 37 ⟨x.s, x.H, x.L, (wd x.s : Int) - (x.n : Int)⟩
  have hb1 : Below w.heap.size w (w.alloc (.cells #[.bool x.s, .int .i64 x.H.toInt, .int .i64 x.L.toInt, .int .i64 ((wd x.s : Int) - (x.n : Int))] 37)) := (Below.refl _ w).alloc (Nat.le_refl _) _
  have hs1 : w.heap.size < (w.alloc (.cells #[.bool x.s, .int .i64 x.H.toInt, .int .i64 x.L.toInt, .int .i64 ((wd x.s : Int) - (x.n : Int))] 37)).heap.size := by simp
  generalize w.alloc (.cells #[.bool x.s, .int .i64 x.H.toInt, .int .i64 x.L.toInt, .int .i64 ((wd x.s : Int) - (x.n : Int))] 37) = W at *
  have HB1 := hidP hb1
  have HBx := hidP hbx
  clear hb1 hbx
  refine (HA.out W (HB.out.later HB1.out)).mono ?_
  rintro e w2 ⟨rfl, hb2⟩
  have d0 := (hb2.cell hs1).trans HBx.out.1
  have d1 := (hb2.cell hs1).trans HBx.out.2.1
  have d2 := (hb2.cell hs1).trans HBx.out.2.2.1
  have d3 := (hb2.cell hs1).trans HBx.out.2.2.2
  have hs2 := Nat.lt_of_lt_of_le hs1 hb2.size
  have HB2 := hidP (HB1.out.trans (hb2.mono HB1.out.size))
  clear hb2
  go_wp2_with fail
  refine (HL.out w2 (HB.out.later HB2.out)).mono ?_
  rintro e w4 ⟨a4, c4, rfl, ho4, hb4⟩
  have HR4 := hidP ho4.row
  have HB4 := hidP (HB2.out.trans (hb4.mono HB2.out.size))
  clear ho4 hb4 d0 d1 d2 d3
  go_wp2_with fail
  go_loopw [8, 10] (fun t8 t10 wr => ∃ (i : Nat) (c : Int), i ≤ m ∧ t10 = .int .i64 i ∧ t8 = .int .i64 c ∧ c = cnt bits ((ys.take i).filter (roomP bits)) ∧ w4 = wr) (fun _ t10 _ => m - (intOf t10).toNat)
  case atStart => exact ⟨0, 0, Nat.zero_le _, rfl, rfl, by simp [cnt], rfl⟩
  case round =>
    obtain ⟨i, c, hi, rfl, rfl, hc, rfl⟩ := hrel
    have hcb := cnt_bd bits ((ys.take i).filter (roomP bits))
    rw [← hc] at hcb
    have HC := hidP hc
    have HCb := hidP hcb
    clear hc
    by_cases hlt : i < m
    · obtain ⟨q, o, t, rfl, hq, ht, e0, e1, e2, e3⟩ := HR4.out.pre i (by rw [← HM.out]; exact hlt)
      have HT := hidP ht
      have hbt := HBd.out t (List.mem_of_getElem? ht)
      obtain ⟨pb, hpb⟩ : ∃ pb, pb = (wd t.s : Int) - t.n := ⟨_, rfl⟩
      rw [← hpb] at e3 hbt
      obtain ⟨d, hd⟩ : ∃ d, d = bits - pb := ⟨_, rfl⟩
      have hdw : IntKind.i64.wrap (bits - pb) = d := by rw [wrap_id _ (by omega) (by omega), hd]
      have HDe : Hid (bits - ((wd t.s : Int) - t.n) = d) := hidP (by rw [← hpb, ← hd])
      have hrm : roomP bits t = decide (0 ≤ d) := by unfold roomP; rw [← hpb]; exact decide_eq_decide.2 (by omega)
      have HRm := hidP hrm
      rw [← hd] at hbt
      clear ht hpb hd hrm
      by_cases hneg : d < 0
      · have hn1 : decide (d < 0) = true := decide_eq_true hneg
        have HN := hidP (room_skip bits ys i t HT.out (by rw [HRm.out]; exact decide_eq_false (by omega)))
        go_wp2_with fail
        go_roundw
        case rel => exact ⟨i + 1, c, by omega, by go_num, rfl, by rw [HN.out]; exact HC.out, by first | rfl | trivial⟩
        case measure => simp [intOf]; omega
      · have hn1 : decide (d < 0) = false := decide_eq_false hneg
        have hr1 : roomP bits t = true := by rw [HRm.out]; exact decide_eq_true (by omega)
        have HFull := hidP (cnt_full bits ys i t HT.out hr1)
        have HMore := hidP (cnt_more bits ys i t HT.out hr1)
        rw [← HC.out, HDe.out] at HFull HMore
        clear hr1
        by_cases h62 : 62 ≤ d
        · have hg1 : decide (62 ≤ d) = true := decide_eq_true h62
          have HE : Hid (cnt bits (ys.filter (roomP bits)) = 4611686018427387904) := hidP (HFull.out (by
            have : fitN d = 4611686018427387904 := by unfold fitN; rw [Int.min_eq_right h62]; rfl
            have := HCb.out
            omega))
          go_wp2_with fail
          go_ret
          exact ⟨by rw [HE.out]; rfl, HB4.out⟩
        · have hg1 : decide (62 ≤ d) = false := decide_eq_false h62
          have hd0 : 0 ≤ d := by omega
          have hd64 : d ≤ 64 := by omega
          have hu : IntKind.u64.wrap d = d := by rw [IntKind.wrap_u64]; omega
          have hfp := fit_pos d
          have hfl : fitN d ≤ 2305843009213693952 := by
            unfold fitN
            rw [Int.min_eq_left (by omega)]
            have h : d.toNat ≤ 61 := by omega
            have h2 : (2 : Nat) ^ d.toNat ≤ 2 ^ 61 := Nat.pow_le_pow_right (by omega) h
            have h3 : ((2 : Int) ^ d.toNat) = ((2 ^ d.toNat : Nat) : Int) := by norm_cast
            rw [h3]
            have h4 : (2 : Nat) ^ 61 = 2305843009213693952 := by decide
            omega
          have hfe : fitN d = 2 ^ d.toNat := by unfold fitN; rw [Int.min_eq_left (by omega)]
          obtain ⟨f, hf⟩ : ∃ f, f = fitN d := ⟨_, rfl⟩
          rw [← hf] at hfp hfl hfe HFull HMore
          have hfw : IntKind.i64.wrap (1 * 2 ^ d.toNat) = f := by rw [Int.one_mul, ← hfe]; exact wrap_id _ (by omega) (by omega)
          have hfw' : IntKind.i64.wrap (2 ^ d.toNat) = f := by rw [← hfe]; exact wrap_id _ (by omega) (by omega)
          have hrw : IntKind.i64.wrap (4611686018427387904 - f) = 4611686018427387904 - f := wrap_id _ (by omega) (by omega)
          have hcw : IntKind.i64.wrap (c + f) = c + f := wrap_id _ (by omega) (by omega)
          clear hfe hf
          by_cases hov : 4611686018427387904 - f < c
          · have ho1 : decide (4611686018427387904 - f < c) = true := decide_eq_true hov
            have HE := hidP (HFull.out (by omega))
            go_wp2_with fail
            go_ret
            exact ⟨by rw [HE.out]; rfl, HB4.out⟩
          · have ho1 : decide (4611686018427387904 - f < c) = false := decide_eq_false hov
            have HE := hidP (HMore.out (by omega))
            go_wp2_with fail
            go_roundw
            case rel => exact ⟨i + 1, c + f, by omega, by go_num, rfl, by rw [HE.out], by first | rfl | trivial⟩
            case measure => simp [intOf]; omega
    · have hin : i = m := by omega
      subst hin
      have HF : Hid (c = cnt bits (ys.filter (roomP bits))) := by have := HC.out; rw [HM.out, List.take_length] at this; exact hidP this
      go_wp2_with fail
      go_ret
      exact ⟨by rw [← HF.out]; rfl, HB4.out⟩

end Go.Proofs.Ytamocbkamjnonaa
