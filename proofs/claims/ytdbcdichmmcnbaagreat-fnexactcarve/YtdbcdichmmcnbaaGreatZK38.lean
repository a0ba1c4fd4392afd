/-
  The prefixes of the blocks that lie in a pool: the program's and the specification's.
-/
import Derived.Test.YtdbcdichmmcnbaaGreatZK35
import Derived.Test.YtdbcdichmmcnbaaGreatZK37
import Derived.Test.YtdbcdichmmcnbaaGreatZK1
namespace Go.Proofs.YtdbcdichmmcnbaaGreat
open Go.RowKit

/-- The prefixes of the blocks that lie in p. -/
def fil (bs : List Bk) (p : Pf) : List Pf := (bs.filter fun b => winP b.p p).map (·.p)
theorem fil_snoc (bs : List Bk) (p : Pf) (k : Nat) (q : Bk) (h : bs[k]? = some q) : fil (bs.take (k + 1)) p = fil (bs.take k) p ++ (if winP q.p p = true then [q.p] else []) := by
  unfold fil
  rw [List.take_add_one, h, List.filter_append, List.map_append]
  congr 1
  simp only [Option.toList_some]
  cases hw : winP q.p p <;> simp [hw]
theorem fil_len (bs : List Bk) (p : Pf) (k : Nat) : (fil (bs.take k) p).length ≤ k := by
  unfold fil
  rw [List.length_map]
  have := List.length_filter_le (fun b => winP b.p p) (bs.take k)
  rw [List.length_take] at this; omega

set_option maxRecDepth 10000 in
set_option maxHeartbeats 2000000 in
theorem blocksIn_any (pt : Pf) (ap : Option Addr) (np cp : Nat) (ab : Option Addr) (nb cb : Nat) (bs : List Bk) (w : World) (hnb : nb = bs.length) (hK : RowG KBk w ab bs) (hl : nb ≤ 1048576) :
    Calls Tryz.prog 37 #[.agg #[.slice ap np cp, .slice ab nb cb], .agg #[.bool pt.s, .int .i64 pt.H.toInt, .int .i64 pt.L.toInt, .int .i64 pt.b]] w fun e w' => ∃ a c, e = .returned (.slice a (fil bs pt).length c) ∧ OwnR 31 w' w.heap.size (.slice a (fil bs pt).length c) (fil bs pt) ∧ Below w.heap.size w w' := by
  have HBK := hidP hK
  have HN := hidP hnb
  clear hK hnb
  go_enter Tryz.func37, Tryz.ntmps37
  go_wp2_with fail
  obtain ⟨u0, u1⟩ := box2 (u := .slice ap np cp) (v := .slice ab nb cb) w 27
  have uB := alloc_below w (.cells #[.slice ap np cp, .slice ab nb cb] 27)
  have uL := alloc_lt w (.cells #[.slice ap np cp, .slice ab nb cb] 27)
  have uS : (w.alloc (.cells #[.slice ap np cp, .slice ab nb cb] 27)).heap.size = w.heap.size + 1 := by simp
  generalize w.alloc (.cells #[.slice ap np cp, .slice ab nb cb] 27) = W1 at *
  obtain ⟨y0, y1, y2, y3⟩ := box4 (p := pt) W1 31
  have yB := alloc_below W1 (.cells #[.bool pt.s, .int .i64 pt.H.toInt, .int .i64 pt.L.toInt, .int .i64 pt.b] 31)
  have yL := alloc_lt W1 (.cells #[.bool pt.s, .int .i64 pt.H.toInt, .int .i64 pt.L.toInt, .int .i64 pt.b] 31)
  have yS : (W1.alloc (.cells #[.bool pt.s, .int .i64 pt.H.toInt, .int .i64 pt.L.toInt, .int .i64 pt.b] 31)).heap.size = W1.heap.size + 1 := by simp
  generalize W1.alloc (.cells #[.bool pt.s, .int .i64 pt.H.toInt, .int .i64 pt.L.toInt, .int .i64 pt.b] 31) = W2 at *
  rw [uS] at y0 y1 y2 y3 yL yS
  have s1 := (yB.cell uL).trans u1
  have sL : w.heap.size < W2.heap.size := by omega
  have HUB := hidP (uB.trans (yB.mono uB.size))
  have HK2 := hidP (HBK.out.later HUB.out)
  have hs2 : w.heap.size + 1 + 1 = W2.heap.size := by omega
  clear uB yB uS yS u0 u1 HBK uL
  clear hs2
  go_loopw [5, 7, 11] (fun t5 _ t11 wr => ∃ (k m : Nat) (ad : Option Addr) (c : Nat), k ≤ nb ∧ t11 = .int .i64 k ∧ t5 = .slice ad m c ∧ m = (fil (bs.take k) pt).length ∧ OwnR 31 wr W2.heap.size (.slice ad m c) (fil (bs.take k) pt) ∧ Below W2.heap.size W2 wr) (fun _ _ t11 _ => nb - (intOf t11).toNat)
  case atStart => exact ⟨0, 0, none, 0, Nat.zero_le _, rfl, rfl, rfl, own_none _ _ _, Below.refl _ _⟩
  case round =>
    obtain ⟨k, m, ad, c, hk, rfl, rfl, hm, hown, hbel⟩ := hrel
    have HM := hidP hm
    have HO := hidP hown
    have HBel := hidP hbel
    have hmk : m ≤ k := by rw [hm]; exact fil_len bs pt k
    by_cases hlt : k < nb
    · obtain ⟨p, o, q, rfl, hp, hq, c0, c1, c2, c3, c4⟩ := rowBk HK2.out k (by rw [← HN.out]; exact hlt)
      have d0 := (hbel.cell hp).trans c0
      have d1 := (hbel.cell hp).trans c1
      have d2 := (hbel.cell hp).trans c2
      have d3 := (hbel.cell hp).trans c3
      have d4 := (hbel.cell hp).trans c4
      have r0 := (hbel.cell yL).trans y0
      have r1 := (hbel.cell yL).trans y1
      have r2 := (hbel.cell yL).trans y2
      have r3 := (hbel.cell yL).trans y3
      have rL : w.heap.size + 1 < wr.heap.size := Nat.lt_of_lt_of_le yL hbel.size
      have hWr : W2.heap.size ≤ wr.heap.size := hbel.size
      have HSn := hidP (fil_snoc bs pt k q hq)
      have HWi := hidP (iWithin_any q.p.s q.p.H q.p.L q.p.b pt.s pt.H pt.L pt.b)
      change Hid (∀ w, Calls Tryz.prog 14 _ w fun e w' => e = .returned (.bool (winP q.p pt)) ∧ Below w.heap.size w w') at HWi
      clear c0 c1 c2 c3 c4 hq hbel hown hm
      cases hw : winP q.p pt
      · rw [hw] at HWi HSn
        go_wp2_with fail
        obtain ⟨x0, x1, x2, x3, x4⟩ := boxBk (q := q) wr 38
        have xB := alloc_below wr (.cells #[.bool q.p.s, .int .i64 q.p.H.toInt, .int .i64 q.p.L.toInt, .int .i64 q.p.b, .string q.t] 38)
        have xL := alloc_lt wr (.cells #[.bool q.p.s, .int .i64 q.p.H.toInt, .int .i64 q.p.L.toInt, .int .i64 q.p.b, .string q.t] 38)
        have xS : (wr.alloc (.cells #[.bool q.p.s, .int .i64 q.p.H.toInt, .int .i64 q.p.L.toInt, .int .i64 q.p.b, .string q.t] 38)).heap.size = wr.heap.size + 1 := by simp
        generalize wr.alloc (.cells #[.bool q.p.s, .int .i64 q.p.H.toInt, .int .i64 q.p.L.toInt, .int .i64 q.p.b, .string q.t] 38) = W3 at *
        have HX3 := hidP xB
        clear xB xS
        refine (HWi.out _).mono ?_
        rintro e w4 ⟨rfl, hb4⟩
        have e0 := (hb4.cell xL).trans x0
        have e1 := (hb4.cell xL).trans x1
        have e2 := (hb4.cell xL).trans x2
        have e3 := (hb4.cell xL).trans x3
        have e4 := (hb4.cell xL).trans x4
        have hr4 : Below wr.heap.size wr w4 := HX3.out.trans (hb4.mono HX3.out.size)
        have HB4 := hidP (HBel.out.trans (hr4.mono HBel.out.size))
        have HO4 := hidP (HO.out.later hr4)
        have hW4 : W2.heap.size ≤ w4.heap.size := Nat.le_trans hWr hr4.size
        clear hb4 hr4 x0 x1 x2 x3 x4 d0 d1 d2 d3 d4
        go_wp2_with fail
        go_roundw
        case rel => exact ⟨k + 1, m, ad, c, by omega, by go_num, rfl, by rw [HSn.out]; simpa using HM.out, by rw [HSn.out]; simpa using HO4.out, HB4.out⟩
        case measure => simp [intOf]; omega
      · rw [hw] at HWi HSn
        rw [if_pos rfl] at HSn
        go_wp2_with fail
        obtain ⟨x0, x1, x2, x3, x4⟩ := boxBk (q := q) wr 38
        have xB := alloc_below wr (.cells #[.bool q.p.s, .int .i64 q.p.H.toInt, .int .i64 q.p.L.toInt, .int .i64 q.p.b, .string q.t] 38)
        have xL := alloc_lt wr (.cells #[.bool q.p.s, .int .i64 q.p.H.toInt, .int .i64 q.p.L.toInt, .int .i64 q.p.b, .string q.t] 38)
        have xS : (wr.alloc (.cells #[.bool q.p.s, .int .i64 q.p.H.toInt, .int .i64 q.p.L.toInt, .int .i64 q.p.b, .string q.t] 38)).heap.size = wr.heap.size + 1 := by simp
        generalize wr.alloc (.cells #[.bool q.p.s, .int .i64 q.p.H.toInt, .int .i64 q.p.L.toInt, .int .i64 q.p.b, .string q.t] 38) = W3 at *
        have HX3 := hidP xB
        clear xB xS
        refine (HWi.out _).mono ?_
        rintro e w4 ⟨rfl, hb4⟩
        have e0 := (hb4.cell xL).trans x0
        have e1 := (hb4.cell xL).trans x1
        have e2 := (hb4.cell xL).trans x2
        have e3 := (hb4.cell xL).trans x3
        have e4 := (hb4.cell xL).trans x4
        have hr4 : Below wr.heap.size wr w4 := HX3.out.trans (hb4.mono HX3.out.size)
        have HB4 := hidP (HBel.out.trans (hr4.mono HBel.out.size))
        have HO4 := hidP (HO.out.later hr4)
        have hW4 : W2.heap.size ≤ w4.heap.size := Nat.le_trans hWr hr4.size
        clear hb4 hr4 x0 x1 x2 x3 x4 d0 d1 d2 d3 d4
        go_wp2_with (at_builtin; refine wpList_appR Tryz.fourP _ rfl (.tmp 19) (.tmp 22) 78 rfl W2.heap.size ad m c 1 (fil (bs.take k) pt) [q.p] (.slice (some ⟨w4.heap.size, 0, none⟩) 1 1) rfl HM.out rfl (HO4.out.alloc _) rfl (src_row Tryz.fourP 1 1 rfl (row_one w4 31 q.p) (by simp)) (by omega) (by simp; omega) ?_; intro a6 c6 w5 ho5 hg5 ht5)
        go_roundw
        case rel => exact ⟨k + 1, m + 1, a6, c6, by omega, by go_num, rfl, by rw [HSn.out, List.length_append, ← HM.out]; rfl, by rw [HSn.out]; exact ho5, below_appR (HB4.out.alloc hW4 _) (HO4.out.alloc _) (by simp; omega) hg5⟩
        case measure => simp [intOf]; omega
    · have eT : bs.take k = bs := List.take_of_length_le (by have := HN.out; omega)
      rw [eT] at HM HO
      clear eT hown hm hbel
      have HF := hidP (And.intro HM.out (And.intro (HO.out.mono HUB.out.size) (HUB.out.trans (HBel.out.mono HUB.out.size))))
      go_wp2_with fail
      go_ret
      refine ⟨ad, c, ?_, ?_, HF.out.2.2⟩
      · rw [← HF.out.1]; rfl
      · rw [← HF.out.1]; exact HF.out.2.1

set_option maxRecDepth 10000 in
set_option maxHeartbeats 2000000 in
theorem l5Blocks_any (pt : Pf) (ap : Option Addr) (np cp : Nat) (ab : Option Addr) (nb cb : Nat) (bs : List Bk) (w : World) (hnb : nb = bs.length) (hK : RowG KBk w ab bs) (hl : nb ≤ 1048576) :
    Calls Tryz.prog 46 #[.agg #[.slice ap np cp, .slice ab nb cb], .agg #[.bool pt.s, .int .i64 pt.H.toInt, .int .i64 pt.L.toInt, .int .i64 pt.b]] w fun e w' => ∃ a c, e = .returned (.slice a (fil bs pt).length c) ∧ OwnR 31 w' w.heap.size (.slice a (fil bs pt).length c) (fil bs pt) ∧ Below w.heap.size w w' := by
  have HBK := hidP hK
  have HN := hidP hnb
  clear hK hnb
  go_enter Tryz.func46, Tryz.ntmps46
  go_wp2_with fail
  obtain ⟨u0, u1⟩ := box2 (u := .slice ap np cp) (v := .slice ab nb cb) w 27
  have uB := alloc_below w (.cells #[.slice ap np cp, .slice ab nb cb] 27)
  have uL := alloc_lt w (.cells #[.slice ap np cp, .slice ab nb cb] 27)
  have uS : (w.alloc (.cells #[.slice ap np cp, .slice ab nb cb] 27)).heap.size = w.heap.size + 1 := by simp
  generalize w.alloc (.cells #[.slice ap np cp, .slice ab nb cb] 27) = W1 at *
  obtain ⟨y0, y1, y2, y3⟩ := box4 (p := pt) W1 31
  have yB := alloc_below W1 (.cells #[.bool pt.s, .int .i64 pt.H.toInt, .int .i64 pt.L.toInt, .int .i64 pt.b] 31)
  have yL := alloc_lt W1 (.cells #[.bool pt.s, .int .i64 pt.H.toInt, .int .i64 pt.L.toInt, .int .i64 pt.b] 31)
  have yS : (W1.alloc (.cells #[.bool pt.s, .int .i64 pt.H.toInt, .int .i64 pt.L.toInt, .int .i64 pt.b] 31)).heap.size = W1.heap.size + 1 := by simp
  generalize W1.alloc (.cells #[.bool pt.s, .int .i64 pt.H.toInt, .int .i64 pt.L.toInt, .int .i64 pt.b] 31) = W2 at *
  rw [uS] at y0 y1 y2 y3 yL yS
  have s1 := (yB.cell uL).trans u1
  have sL : w.heap.size < W2.heap.size := by omega
  have HUB := hidP (uB.trans (yB.mono uB.size))
  have HK2 := hidP (HBK.out.later HUB.out)
  have hs2 : w.heap.size + 1 + 1 = W2.heap.size := by omega
  clear uB yB uS yS u0 u1 HBK uL
  have HZ : Hid (OwnR 31 (W2.alloc (.cells #[] 31)) W2.heap.size (.slice (some ⟨w.heap.size + 1 + 1, 0, none⟩) 0 0) []) := hidP (by rw [hs2]; exact own_zero W2 W2.heap.size 31 (Nat.le_refl _))
  have HZB := hidP (alloc_below W2 (.cells #[] 31))
  clear hs2
  go_loopw [5, 6] (fun t5 t6 wr => ∃ (k m : Nat) (ad : Option Addr) (c : Nat), k ≤ nb ∧ t6 = .int .i64 k ∧ t5 = .slice ad m c ∧ m = (fil (bs.take k) pt).length ∧ OwnR 31 wr W2.heap.size (.slice ad m c) (fil (bs.take k) pt) ∧ Below W2.heap.size W2 wr) (fun _ t6 _ => nb - (intOf t6).toNat)
  case atStart => exact ⟨0, 0, _, 0, Nat.zero_le _, rfl, rfl, rfl, HZ.out, HZB.out⟩
  case round =>
    obtain ⟨k, m, ad, c, hk, rfl, rfl, hm, hown, hbel⟩ := hrel
    have HM := hidP hm
    have HO := hidP hown
    have HBel := hidP hbel
    have hmk : m ≤ k := by rw [hm]; exact fil_len bs pt k
    have v1 := (hbel.cell sL).trans s1
    have vL : w.heap.size < wr.heap.size := Nat.lt_of_lt_of_le sL hbel.size
    by_cases hlt : k < nb
    · obtain ⟨p, o, q, rfl, hp, hq, c0, c1, c2, c3, c4⟩ := rowBk HK2.out k (by rw [← HN.out]; exact hlt)
      have d0 := (hbel.cell hp).trans c0
      have d1 := (hbel.cell hp).trans c1
      have d2 := (hbel.cell hp).trans c2
      have d3 := (hbel.cell hp).trans c3
      have dL : p < wr.heap.size := Nat.lt_of_lt_of_le hp hbel.size
      have r0 := (hbel.cell yL).trans y0
      have r1 := (hbel.cell yL).trans y1
      have r2 := (hbel.cell yL).trans y2
      have r3 := (hbel.cell yL).trans y3
      have rL : w.heap.size + 1 < wr.heap.size := Nat.lt_of_lt_of_le yL hbel.size
      have hWr : W2.heap.size ≤ wr.heap.size := hbel.size
      have HSn := hidP (fil_snoc bs pt k q hq)
      have HWi := hidP (sWithin_any q.p.s q.p.H q.p.L q.p.b pt.s pt.H pt.L pt.b)
      change Hid (∀ w, Calls Tryz.prog 97 _ w fun e w' => e = .returned (.bool (winP q.p pt)) ∧ Below w.heap.size w w') at HWi
      clear c0 c1 c2 c3 c4 hq hbel hown hm
      cases hw : winP q.p pt
      · rw [hw] at HWi HSn
        go_wp2_with fail
        have HSx : Hid (∀ x, Below wr.heap.size wr x → (x.cell? ⟨p, o + k * 5, none⟩ = some (.bool q.p.s) ∧ x.cell? ⟨p, o + k * 5 + 1, none⟩ = some (.int .i64 q.p.H.toInt) ∧ x.cell? ⟨p, o + k * 5 + 2, none⟩ = some (.int .i64 q.p.L.toInt) ∧ x.cell? ⟨p, o + k * 5 + 3, none⟩ = some (.int .i64 q.p.b) ∧ x.cell? ⟨w.heap.size, 1, none⟩ = some (.slice (some ⟨p, o, none⟩) nb cb) ∧ x.cell? ⟨w.heap.size + 1, 0, none⟩ = some (.bool pt.s) ∧ x.cell? ⟨w.heap.size + 1, 1, none⟩ = some (.int .i64 pt.H.toInt) ∧ x.cell? ⟨w.heap.size + 1, 2, none⟩ = some (.int .i64 pt.L.toInt) ∧ x.cell? ⟨w.heap.size + 1, 3, none⟩ = some (.int .i64 pt.b) ∧ Below wr.heap.size wr x)) := hidP fun x h =>
          ⟨(h.cell dL).trans d0, (h.cell dL).trans d1, (h.cell dL).trans d2, (h.cell dL).trans d3, (h.cell vL).trans v1, (h.cell rL).trans r0, (h.cell rL).trans r1, (h.cell rL).trans r2, (h.cell rL).trans r3, h⟩
        refine wp_region_held_drew (S := (fun x => x.cell? ⟨p, o + k * 5, none⟩ = some (.bool q.p.s) ∧ x.cell? ⟨p, o + k * 5 + 1, none⟩ = some (.int .i64 q.p.H.toInt) ∧ x.cell? ⟨p, o + k * 5 + 2, none⟩ = some (.int .i64 q.p.L.toInt) ∧ x.cell? ⟨p, o + k * 5 + 3, none⟩ = some (.int .i64 q.p.b) ∧ x.cell? ⟨w.heap.size, 1, none⟩ = some (.slice (some ⟨p, o, none⟩) nb cb) ∧ x.cell? ⟨w.heap.size + 1, 0, none⟩ = some (.bool pt.s) ∧ x.cell? ⟨w.heap.size + 1, 1, none⟩ = some (.int .i64 pt.H.toInt) ∧ x.cell? ⟨w.heap.size + 1, 2, none⟩ = some (.int .i64 pt.L.toInt) ∧ x.cell? ⟨w.heap.size + 1, 3, none⟩ = some (.int .i64 pt.b) ∧ Below wr.heap.size wr x)) (by kernel_rfl) ?_ (fun hHeld => ?_)
        · try dsimp only
          exact HSx.out _ ((Below.refl _ _).drew)
        refine tk 0 15 rfl ?_
        simp only [pa]
        refine tk 1 16 rfl ?_
        simp only [pa]
        refine tk 2 17 rfl ?_
        simp only [pa]
        refine tk 3 18 rfl ?_
        simp only [pa]
        refine tk 4 19 rfl ?_
        simp only [pa]
        refine tk 5 20 rfl ?_
        simp only [pa]
        refine tk 6 21 rfl ?_
        simp only [pa]
        refine wpAnyH_ready (rs := [7]) (by kernel_rfl) (by simp) ?_
        refine AllReadyH.cons rfl (fun K hK => ?_) AllReadyH.nil
        go_simp
        go_wp2_with (first | (go_at_call 97; refine (HWi.out _).mono ?_; rintro e w4 ⟨rfl, hb4⟩; have b4 := (hHeld.2.2.2.2.2.2.2.2.2).trans (hb4.mono (hHeld.2.2.2.2.2.2.2.2.2).size)))
        refine hK.out _ _ ?_ (fun hHeld => ?_)
        · try dsimp only
          exact HSx.out _ b4
        clear hK K
        have HE := hidP (hHeld.2.2.2.2.2.2.2.2.2)
        refine wpAnyH_done (by kernel_rfl) ?_ _
        clear hHeld
        have HB4 := hidP (HBel.out.trans (HE.out.mono HBel.out.size))
        have HO4 := hidP (HO.out.later HE.out)
        have hW4 : W2.heap.size ≤ w4.heap.size := Nat.le_trans hWr HE.out.size
        go_wp2_with fail
        go_roundw
        case rel => exact ⟨k + 1, m, ad, c, by omega, by go_num, rfl, by rw [HSn.out]; simpa using HM.out, by rw [HSn.out]; simpa using HO4.out, HB4.out⟩
        case measure => simp [intOf]; omega
      · rw [hw] at HWi HSn
        rw [if_pos rfl] at HSn
        go_wp2_with fail
        have HSx : Hid (∀ x, Below wr.heap.size wr x → (x.cell? ⟨p, o + k * 5, none⟩ = some (.bool q.p.s) ∧ x.cell? ⟨p, o + k * 5 + 1, none⟩ = some (.int .i64 q.p.H.toInt) ∧ x.cell? ⟨p, o + k * 5 + 2, none⟩ = some (.int .i64 q.p.L.toInt) ∧ x.cell? ⟨p, o + k * 5 + 3, none⟩ = some (.int .i64 q.p.b) ∧ x.cell? ⟨w.heap.size, 1, none⟩ = some (.slice (some ⟨p, o, none⟩) nb cb) ∧ x.cell? ⟨w.heap.size + 1, 0, none⟩ = some (.bool pt.s) ∧ x.cell? ⟨w.heap.size + 1, 1, none⟩ = some (.int .i64 pt.H.toInt) ∧ x.cell? ⟨w.heap.size + 1, 2, none⟩ = some (.int .i64 pt.L.toInt) ∧ x.cell? ⟨w.heap.size + 1, 3, none⟩ = some (.int .i64 pt.b) ∧ Below wr.heap.size wr x)) := hidP fun x h =>
          ⟨(h.cell dL).trans d0, (h.cell dL).trans d1, (h.cell dL).trans d2, (h.cell dL).trans d3, (h.cell vL).trans v1, (h.cell rL).trans r0, (h.cell rL).trans r1, (h.cell rL).trans r2, (h.cell rL).trans r3, h⟩
        refine wp_region_held_drew (S := (fun x => x.cell? ⟨p, o + k * 5, none⟩ = some (.bool q.p.s) ∧ x.cell? ⟨p, o + k * 5 + 1, none⟩ = some (.int .i64 q.p.H.toInt) ∧ x.cell? ⟨p, o + k * 5 + 2, none⟩ = some (.int .i64 q.p.L.toInt) ∧ x.cell? ⟨p, o + k * 5 + 3, none⟩ = some (.int .i64 q.p.b) ∧ x.cell? ⟨w.heap.size, 1, none⟩ = some (.slice (some ⟨p, o, none⟩) nb cb) ∧ x.cell? ⟨w.heap.size + 1, 0, none⟩ = some (.bool pt.s) ∧ x.cell? ⟨w.heap.size + 1, 1, none⟩ = some (.int .i64 pt.H.toInt) ∧ x.cell? ⟨w.heap.size + 1, 2, none⟩ = some (.int .i64 pt.L.toInt) ∧ x.cell? ⟨w.heap.size + 1, 3, none⟩ = some (.int .i64 pt.b) ∧ Below wr.heap.size wr x)) (by kernel_rfl) ?_ (fun hHeld => ?_)
        · try dsimp only
          exact HSx.out _ ((Below.refl _ _).drew)
        refine tk 0 15 rfl ?_
        simp only [pa]
        refine tk 1 16 rfl ?_
        simp only [pa]
        refine tk 2 17 rfl ?_
        simp only [pa]
        refine tk 3 18 rfl ?_
        simp only [pa]
        refine tk 4 19 rfl ?_
        simp only [pa]
        refine tk 5 20 rfl ?_
        simp only [pa]
        refine tk 6 21 rfl ?_
        simp only [pa]
        refine wpAnyH_ready (rs := [7]) (by kernel_rfl) (by simp) ?_
        refine AllReadyH.cons rfl (fun K hK => ?_) AllReadyH.nil
        go_simp
        go_wp2_with (first | (go_at_call 97; refine (HWi.out _).mono ?_; rintro e w4 ⟨rfl, hb4⟩; have b4 := (hHeld.2.2.2.2.2.2.2.2.2).trans (hb4.mono (hHeld.2.2.2.2.2.2.2.2.2).size)))
        refine hK.out _ _ ?_ (fun hHeld => ?_)
        · try dsimp only
          exact HSx.out _ b4
        clear hK K
        have HE := hidP (hHeld.2.2.2.2.2.2.2.2.2)
        refine wpAnyH_done (by kernel_rfl) ?_ _
        clear hHeld
        have HB4 := hidP (HBel.out.trans (HE.out.mono HBel.out.size))
        have HO4 := hidP (HO.out.later HE.out)
        have hW4 : W2.heap.size ≤ w4.heap.size := Nat.le_trans hWr HE.out.size
        have e0 := (HE.out.cell dL).trans d0
        have e1 := (HE.out.cell dL).trans d1
        have e2 := (HE.out.cell dL).trans d2
        have e3 := (HE.out.cell dL).trans d3
        have n1 := (HE.out.cell vL).trans v1
        clear d0 d1 d2 d3 v1
        go_wp2_with (at_builtin; refine wpList_appR Tryz.fourP _ rfl (.tmp 23) (.tmp 30) 78 rfl W2.heap.size ad m c 1 (fil (bs.take k) pt) [q.p] (.slice (some ⟨w4.heap.size, 0, none⟩) 1 1) rfl HM.out rfl (HO4.out.alloc _) rfl (src_row Tryz.fourP 1 1 rfl (row_one w4 31 q.p) (by simp)) (by omega) (by simp; omega) ?_; intro a6 c6 w5 ho5 hg5 ht5)
        go_roundw
        case rel => exact ⟨k + 1, m + 1, a6, c6, by omega, by go_num, rfl, by rw [HSn.out, List.length_append, ← HM.out]; rfl, by rw [HSn.out]; exact ho5, below_appR (HB4.out.alloc hW4 _) (HO4.out.alloc _) (by simp; omega) hg5⟩
        case measure => simp [intOf]; omega
    · have eT : bs.take k = bs := List.take_of_length_le (by have := HN.out; omega)
      rw [eT] at HM HO
      clear eT hown hm hbel
      have HF := hidP (And.intro HM.out (And.intro (HO.out.mono HUB.out.size) (HUB.out.trans (HBel.out.mono HUB.out.size))))
      go_wp2_with fail
      go_ret
      refine ⟨ad, c, ?_, ?_, HF.out.2.2⟩
      · rw [← HF.out.1]; rfl
      · rw [← HF.out.1]; exact HF.out.2.1

end Go.Proofs.YtdbcdichmmcnbaaGreat
