/-
  The specification's l2Apart and DrawWithout: some prefix and some row of prefixes, of words of 64 bits; nothing old turns.
-/
import Derived.Test.YtgohffeneibhdaaMW3
import Derived.Test.YtgohffeneibhdaaTkB
import Derived.Test.YtgohffeneibhdaaBIWith
import Derived.Deep.RegionWith
import Derived.Deep.DeepCutAuto
import Derived.Test.YtgohffeneibhdaaMW1
import Derived.Carry
import Derived.Deep.Slices
import Derived.ProofKit
import Derived.Lib.SmallJoins
namespace Go.Proofs.Ytgohffeneibhdaa
open Go.RowKit

theorem shl_bv (x : Int) : ∃ H : BitVec 64, IntKind.i64.wrap x = H.toInt := by
  refine ⟨BitVec.ofInt 64 x, ?_⟩
  rw [BitVec.toInt_ofInt, IntKind.wrap_i64]
  unfold Int.bmod
  simp
  omega
/-- While a row is drawn without an argument. -/
structure AI (w X : World) (c : Nat) (a : Option Addr) (len cap : Nat) (a7 : Option Addr) (k c7 : Nat) (ps : List Pf) : Prop where
  cur : Cur X c a len cap
  kp : Kp c w X
  hc : c < w.heap.size
  own : OwnR 31 X w.heap.size (.slice a7 k c7) ps
theorem AI.keep {w X Y : World} {c : Nat} {a : Option Addr} {len cap : Nat} {a7 : Option Addr} {k c7 : Nat} {ps : List Pf} (h : AI w X c a len cap a7 k c7 ps) (hC : Cur Y c a len cap) (kk : Kp c X Y) : AI w Y c a len cap a7 k c7 ps :=
  ⟨hC, h.kp.trans kk, h.hc, h.own.kp kk h.hc⟩
theorem AI.below {w X Y : World} {c : Nat} {a : Option Addr} {len cap : Nat} {a7 : Option Addr} {k c7 : Nat} {ps : List Pf} (h : AI w X c a len cap a7 k c7 ps) (b : Below X.heap.size X Y) : AI w Y c a len cap a7 k c7 ps :=
  ⟨h.cur.grew b, h.kp.below h.hc b, h.hc, h.own.later b⟩
theorem AI.app {w X Y : World} {c : Nat} {a : Option Addr} {len cap : Nat} {a7 : Option Addr} {k c7 : Nat} {ps : List Pf} (h : AI w X c a len cap a7 k c7 ps) {a9 : Option Addr} {k9 c9 : Nat} {qs : List Pf} (ho : OwnR 31 Y w.heap.size (.slice a9 k9 c9) qs) (hg : X.grownBy Y (Value.slice a7 k c7).ownBlock) : AI w Y c a len cap a9 k9 c9 qs := by
  have hq : ∀ g, (Value.slice a7 k c7).ownBlock = some g → w.heap.size ≤ g := fun g hg => (h.own.lt g hg).1
  have hcl := h.hc
  exact ⟨h.cur.keep ((Below.refl _ X).grown hg (by have := h.cur.lt; omega) (fun g e => by have := hq g e; omega)), h.kp.grownR hg hq h.hc, h.hc, ho⟩

set_option maxRecDepth 10000 in
set_option maxHeartbeats 4000000 in
theorem l2Apart_any (c : Nat) (a : Option Addr) (len cap : Nat) (w : World) (hC : Cur w c a len cap) :
    Calls Try.prog 44 #[.pointer (some ⟨c, 0, none⟩)] w fun e w' => (∃ (a7 : Option Addr) (k c7 : Nat) (ps : List Pf), k = ps.length ∧ k ≤ 300 ∧ e = .returned (.slice a7 k c7) ∧ OwnR 31 w' w.heap.size (.slice a7 k c7) ps) ∧ Cur w' c a len cap ∧ Kp c w w' := by
  have hc := hC.lt
  have HL1 := hidP (show AI w (w.alloc (.cells #[] 31)) c a len cap (some ⟨w.heap.size, 0, none⟩) 0 0 [] from by
    have k1 := alloc_bN w (.cells #[] 31)
    exact ⟨hC.grew k1, (Kp.refl c w).below hc k1, hc, own_zero w w.heap.size 31 (Nat.le_refl _)⟩)
  clear hC
  go_enter Try.func44, Try.ntmps44
  go_wp2_with fail
  generalize w.alloc (.cells #[] 31) = W1 at *
  refine (l1Below_any c a len cap 4 _ HL1.out.cur).mono ?_
  rintro e w3 ⟨⟨x, y0, y9, rfl⟩, hC3, hK3⟩
  have HL3 := hidP (HL1.out.keep hC3 hK3)
  have y8 := y9 (by omega)
  obtain ⟨i0, hi0⟩ : ∃ i0 : Nat, 1 + x = (i0 : Int) := ⟨(1 + x).toNat, by omega⟩
  have ew : IntKind.i64.wrap (i0 : Int) = (i0 : Int) := by rw [IntKind.wrap_i64]; omega
  have hi9 : i0 ≤ 4 := by omega
  clear hC3 hK3 HL1 y9
  go_wp2_with fail
  go_loopw [3, 4] (fun t3 t4 wr => ∃ (a7 : Option Addr) (k c7 i : Nat) (ps : List Pf), t3 = .slice a7 k c7 ∧ t4 = .int .i64 i ∧ k + i ≤ 4 ∧ AI w wr c a len cap a7 k c7 ps) (fun _ t4 _ => (intOf t4).toNat)
  case atStart => exact ⟨_, 0, 0, i0, [], rfl, rfl, by omega, HL3.out⟩
  case round =>
    obtain ⟨a7, k, c7, i, ps, rfl, rfl, hki, hli⟩ := hrel
    obtain ⟨W4, hW4⟩ : ∃ z, z = wr := ⟨_, rfl⟩
    rw [← hW4] at hli ⊢
    clear hW4 HL3
    have HL4 := hidP hli
    have HKp := hidP (show k = ps.length from hli.own.caps.1)
    clear hli hi0 ew y0 y8 hi9
    by_cases hi1 : 0 < i
    · obtain ⟨m, rfl⟩ : ∃ m, i = m + 1 := ⟨i - 1, by omega⟩
      have e1 : decide ((0 : Int) < (m : Int) + 1) = true := decide_eq_true (by omega)
      have e2 : IntKind.i64.wrap ((m : Int) + 1 - 1) = (m : Int) := by rw [IntKind.wrap_i64]; omega
      have e3 : IntKind.i64.wrap (m : Int) = (m : Int) := by rw [IntKind.wrap_i64]; omega
      obtain ⟨H, hH⟩ := shl_bv (((m : Int) + 1) * 2305843009213693952)
      clear hi1
      go_wp2_with fail
      refine (l1Below_any c a len cap 256 _ HL4.out.cur).mono ?_
      rintro e w5 ⟨⟨y, yy0, yy9, rfl⟩, hC5, hK5⟩
      have HL5 := hidP (HL4.out.keep hC5 hK5)
      have yy8 := yy9 (by omega)
      obtain ⟨L, rfl⟩ : ∃ L : BitVec 64, y = L.toInt := ⟨BitVec.ofInt 64 y, (i64_bv ⟨by omega, by omega⟩).symm⟩
      clear hC5 hK5 HL4 yy9
      go_wp2_with (at_builtin; refine stp9 ?_)
      unfold Stp9
      have hba := alloc_bN w5 (.cells #[.bool true, .int .i64 H.toInt, .int .i64 L.toInt] 29)
      have HL6 := hidP (HL5.out.below hba)
      have hs6 : (w5.alloc (.cells #[.bool true, .int .i64 H.toInt, .int .i64 L.toInt] 29)).heap.size = w5.heap.size + 1 := by simp
      generalize w5.alloc (.cells #[.bool true, .int .i64 H.toInt, .int .i64 L.toInt] 29) = W6 at *
      have hbb := alloc_bN W6 (.cells #[.bool true, .int .i64 H.toInt, .int .i64 L.toInt, .int .i64 128] 31)
      have hSr := src_row (P := Try.prog) Try.fourP9 1 1 rfl (row_one W6 31 ⟨true, H, L, 128⟩) (fun h => by cases h)
      rw [hs6] at hSr
      have HSr := hidP hSr
      clear hSr hs6
      have HLa := hidP (HL6.out.below hbb)
      refine wpList_appR Try.fourP9 _ rfl (.tmp 19) (.tmp 22) 24 rfl w.heap.size a7 k c7 1 ps [⟨true, H, L, 128⟩] _ rfl HKp.out rfl HLa.out.own rfl HSr.out (by omega) (Nat.le_trans HL6.out.kp.big (by simp)) ?_
      intro a9 c9 w9 ho9 hg9 ht9
      have HL10 := hidP (HLa.out.app ho9 hg9)
      clear ho9 hg9 ht9 hba hbb HSr HLa
      go_wp2_with fail
      go_roundw
      case rel => exact ⟨a9, k + 1, c9, m, _, rfl, by go_num, by omega, HL10.out⟩
      case measure => simp [intOf]
    · have hi2 : i = 0 := by omega
      subst hi2
      go_wp2_with fail
      go_ret
      exact ⟨⟨a7, k, c7, ps, HKp.out, by omega, rfl, HL4.out.own⟩, HL4.out.cur, HL4.out.kp⟩

/-- While a prefix and a row are drawn: the result's box is w's first new block, the cursor its second. -/
structure DI (w X : World) (a : Option Addr) (len cap : Nat) (v0 v1 v2 v3 : Value) : Prop where
  cur : Cur X (w.heap.size + 1) a len cap
  low : Below w.heap.size w X
  r0 : X.cell? ⟨w.heap.size, 0, none⟩ = some v0
  r1 : X.cell? ⟨w.heap.size, 1, none⟩ = some v1
  r2 : X.cell? ⟨w.heap.size, 2, none⟩ = some v2
  r3 : X.cell? ⟨w.heap.size, 3, none⟩ = some v3
  rF : ∀ o, X.frozen? ⟨w.heap.size, o, none⟩ = false
theorem DI.keep {w X Y : World} {a : Option Addr} {len cap : Nat} {v0 v1 v2 v3 : Value} (h : DI w X a len cap v0 v1 v2 v3) (hC : Cur Y (w.heap.size + 1) a len cap) (k : Kp (w.heap.size + 1) X Y) : DI w Y a len cap v0 v1 v2 v3 :=
  ⟨hC, h.low.trans (k.low.mono (by omega)), (k.low.cell (by dsimp only; omega)).trans h.r0, (k.low.cell (by dsimp only; omega)).trans h.r1, (k.low.cell (by dsimp only; omega)).trans h.r2, (k.low.cell (by dsimp only; omega)).trans h.r3, fun o => (k.low.frozen (by dsimp only; omega)).trans (h.rF o)⟩
theorem DI.below {w X Y : World} {a : Option Addr} {len cap : Nat} {v0 v1 v2 v3 : Value} (h : DI w X a len cap v0 v1 v2 v3) (b : Below X.heap.size X Y) : DI w Y a len cap v0 v1 v2 v3 := h.keep (h.cur.grew b) (Kp.of_below h.cur.lt b)
theorem cur_putOld {W : World} {c : Nat} {a : Option Addr} {len cap : Nat} (h : Cur W c a len cap) {p : Nat} (hp : p + 1 = c) (hb : ∀ j, j < len → ∃ q o v, a = some ⟨q, o, none⟩ ∧ q < p ∧ W.cell? ⟨q, o + j, none⟩ = some (.int .u8 v)) (u : Pf) : Cur (put4 W p u) c a len cap := by
  have e : ∀ x o, x ≠ p → (put4 W p u).cell? ⟨x, o, none⟩ = W.cell? ⟨x, o, none⟩ := fun x o hx =>
    (World.cell?_setCell_far _ _ _ _ (by show p ≠ x; omega)).trans ((World.cell?_setCell_far _ _ _ _ (by show p ≠ x; omega)).trans ((World.cell?_setCell_far _ _ _ _ (by show p ≠ x; omega)).trans (World.cell?_setCell_far _ _ _ _ (by show p ≠ x; omega))))
  obtain ⟨i, hi, h1⟩ := h.idx
  obtain ⟨m, h2⟩ := h.mix
  refine ⟨(e c 0 (by omega)).trans h.row, ⟨i, hi, (e c 1 (by omega)).trans h1⟩, ⟨m, (e c 2 (by omega)).trans h2⟩, by simpa [go_sem] using h.fr1, by simpa [go_sem] using h.fr2, fun j hj => ?_, h.few⟩
  obtain ⟨q, o, v, ha, hq, hv, h0, h9⟩ := h.byt j hj
  obtain ⟨q', o', v', ha', hq', hv'⟩ := hb j hj
  rw [ha] at ha'
  simp at ha'
  exact ⟨q, o, v, ha, hq, (e q _ (by omega)).trans hv, h0, h9⟩
/-- The code lies ahead of the result's box. -/
def Ahe (w : World) (a : Option Addr) (len : Nat) : Prop := ∀ j, j < len → ∃ q o, a = some ⟨q, o, none⟩ ∧ q < w.heap.size
theorem DI.put {w X : World} {a : Option Addr} {len cap : Nat} {v0 v1 v2 v3 : Value} (h : DI w X a len cap v0 v1 v2 v3) (hA : Ahe w a len) (u : Pf) : DI w (put4 X w.heap.size u) a len cap (.bool u.s) (.int .i64 u.H.toInt) (.int .i64 u.L.toInt) (.int .i64 u.b) := by
  refine ⟨cur_putOld h.cur rfl (fun j hj => ?_) u, (((h.low.setCell (Nat.le_refl _) _).setCell (Nat.le_refl _) _).setCell (Nat.le_refl _) _).setCell (Nat.le_refl _) _, by simp [go_sem, h.r0], by simp [go_sem, h.r1], by simp [go_sem, h.r2], by simp [go_sem, h.r3], fun o => by simpa [go_sem] using h.rF o⟩
  obtain ⟨q, o, v, ha, hq, hv, _⟩ := h.cur.byt j hj
  obtain ⟨q', o', ha', hq'⟩ := hA j hj
  rw [ha] at ha'
  simp at ha'
  exact ⟨q, o, v, ha, by omega, hv⟩

set_option maxRecDepth 10000 in
set_option maxHeartbeats 4000000 in
theorem drawWithout_any (a : Option Addr) (len cap : Nat) (w : World) (hB : Bytes w a len) (hl : len ≤ 1048576) :
    Calls Try.prog 13 #[.slice a len cap] w fun e w' => ∃ (p : Pf) (a7 : Option Addr) (k c7 : Nat) (ps : List Pf), k = ps.length ∧ k ≤ 300 ∧ e = .returned (.tuple #[.agg #[.bool p.s, .int .i64 p.H.toInt, .int .i64 p.L.toInt, .int .i64 p.b], .slice a7 k c7]) ∧ OwnR 31 w' w.heap.size (.slice a7 k c7) ps ∧ Below w.heap.size w w' := by
  have HAh := hidP (show Ahe w a len from fun j hj => by
    obtain ⟨p, o, v, ha, hp, _⟩ := hB j hj
    exact ⟨p, o, ha, hp⟩)
  have HBy := hidP hB
  clear hB
  go_enter Try.func13, Try.ntmps13
  go_wp2_with fail
  have zb1 := alloc_bN w (.cells #[.bool false, .int .i64 0, .int .i64 0, .int .i64 0] 31)
  have zs1 : (w.alloc (.cells #[.bool false, .int .i64 0, .int .i64 0, .int .i64 0] 31)).heap.size = w.heap.size + 1 := by simp
  have hR : N4 (w.alloc (.cells #[.bool false, .int .i64 0, .int .i64 0, .int .i64 0] 31)) w.heap.size 0 (.bool false) (.int .i64 0) (.int .i64 0) (.int .i64 0) ∨ w.heap.size = 0 := by
    rcases Nat.eq_zero_or_pos w.heap.size with h | h
    · exact Or.inr h
    · exact Or.inl (N4.new w 0 h _ _ _ _)
  have q0 : (w.alloc (.cells #[.bool false, .int .i64 0, .int .i64 0, .int .i64 0] 31)).cell? ⟨w.heap.size, 0, none⟩ = some (.bool false) := by simp [go_sem]
  have q1 : (w.alloc (.cells #[.bool false, .int .i64 0, .int .i64 0, .int .i64 0] 31)).cell? ⟨w.heap.size, 1, none⟩ = some (.int .i64 0) := by simp [go_sem]
  have q2 : (w.alloc (.cells #[.bool false, .int .i64 0, .int .i64 0, .int .i64 0] 31)).cell? ⟨w.heap.size, 2, none⟩ = some (.int .i64 0) := by simp [go_sem]
  have q3 : (w.alloc (.cells #[.bool false, .int .i64 0, .int .i64 0, .int .i64 0] 31)).cell? ⟨w.heap.size, 3, none⟩ = some (.int .i64 0) := by simp [go_sem]
  have qF : ∀ o, (w.alloc (.cells #[.bool false, .int .i64 0, .int .i64 0, .int .i64 0] 31)).frozen? ⟨w.heap.size, o, none⟩ = false := fun o => by simp [go_sem]
  clear hR
  generalize w.alloc (.cells #[.bool false, .int .i64 0, .int .i64 0, .int .i64 0] 31) = W1 at *
  have hB1 : Bytes W1 a len := fun j hj => by
    obtain ⟨p, o, v, ha, hp, cv, v0, v9⟩ := HBy.out j hj
    exact ⟨p, o, v, ha, by omega, (zb1.cell hp).trans cv, v0, v9⟩
  refine (l1New_any a len cap W1 hB1 hl).mono ?_
  rintro e w2 ⟨rfl, hC2, hb2, hs2⟩
  rw [zs1] at hC2
  have H2 := hidP (show DI w w2 a len cap (.bool false) (.int .i64 0) (.int .i64 0) (.int .i64 0) from ⟨hC2, zb1.trans (hb2.mono zb1.size), (hb2.cell (by dsimp only; omega)).trans q0, (hb2.cell (by dsimp only; omega)).trans q1, (hb2.cell (by dsimp only; omega)).trans q2, (hb2.cell (by dsimp only; omega)).trans q3, fun o => (hb2.frozen (by dsimp only; omega)).trans (qF o)⟩)
  rw [zs1]
  clear hB1 hC2 hb2 hs2 q0 q1 q2 q3 qF zb1 zs1 HBy
  go_wp2_with fail
  refine (l2DrawAny_any (w.heap.size + 1) a len cap _ H2.out.cur).mono ?_
  rintro e w3 ⟨⟨S, X, Y, Z, hI, rfl⟩, hC3, hK3⟩
  have H3 := hidP (H2.out.keep hC3 hK3)
  obtain ⟨H, rfl⟩ : ∃ H : BitVec 64, X = H.toInt := ⟨BitVec.ofInt 64 X, (i64_bv hI.1).symm⟩
  obtain ⟨L, rfl⟩ : ∃ L : BitVec 64, Y = L.toInt := ⟨BitVec.ofInt 64 Y, (i64_bv hI.2.1).symm⟩
  obtain ⟨p, hp⟩ : ∃ p : Pf, p = ⟨S, H, L, Z⟩ := ⟨_, rfl⟩
  have e1 : S = p.s := by rw [hp]
  have e2 : H = p.H := by rw [hp]
  have e3 : L = p.L := by rw [hp]
  have e4 : Z = p.b := by rw [hp]
  rw [e1, e2, e3, e4]
  clear hC3 hK3 H2 hI e1 e2 e3 e4 hp
  go_wp2_with fail
  have hw3 := H3.out.cur.lt
  have hQ4 : NB (w3.alloc (.cells #[.bool p.s, .int .i64 p.H.toInt, .int .i64 p.L.toInt, .int .i64 p.b] 31)) w3.heap.size (w.heap.size + 1) p := N4.new w3 _ hw3 _ _ _ _
  have k4 := alloc_bN w3 (.cells #[.bool p.s, .int .i64 p.H.toInt, .int .i64 p.L.toInt, .int .i64 p.b] 31)
  have H4 := hidP (H3.out.below k4)
  have HQ4 := hidP hQ4
  generalize w3.alloc (.cells #[.bool p.s, .int .i64 p.H.toInt, .int .i64 p.L.toInt, .int .i64 p.b] 31) = W4 at *
  generalize w3.heap.size = x5 at *
  clear k4 hQ4 H3 hw3
  refine (l1Once_any (w.heap.size + 1) a len cap 30 _ H4.out.cur).mono ?_
  rintro e w5 ⟨⟨b, rfl⟩, hC5, hK5⟩
  have H5 := hidP (H4.out.keep hC5 hK5)
  have HQ5 := hidP (HQ4.out.keep hK5 (Nat.le_refl _))
  clear hC5 hK5 H4 HQ4
  have hxm := HQ5.out.m
  have nA : ¬ (x5 = w.heap.size) := by omega
  have nB : ¬ (w.heap.size = x5) := by omega
  cases b
  · obtain ⟨p0, p1, p2, p3, pf, pl, pm⟩ := HQ5.out
    obtain ⟨c5, l5, r0, r1, r2, r3, rF⟩ := H5.out
    clear c5 l5
    go_upto_region 5 with fail
    have HS := hidP (fun (W : World) => (l1SizeP a len cap 12 (by omega) hl W).mono (R' := fun e w' => (∃ x : Int, 0 < x ∧ x ≤ 12 ∧ e = .returned (.int .i64 x)) ∧ W = w') (fun e w' h => ⟨h.1, h.2.symm⟩))
    have H6 := hidP (H5.out.below (Below.refl _ _).drew)
    have HQ6 := hidP (HQ5.out.later (Below.refl _ _).drew)
    refine wp_region_held_drew (S := (fun x => x.cell? ⟨x5, 0, none⟩ = some (.bool p.s) ∧ x.cell? ⟨x5, 1, none⟩ = some (.int .i64 p.H.toInt) ∧ x.cell? ⟨x5, 2, none⟩ = some (.int .i64 p.L.toInt) ∧ x.cell? ⟨x5, 3, none⟩ = some (.int .i64 p.b))) (by kernel_rfl) ?_ (fun hHeld => ?_)
    · try dsimp only
      exact ⟨HQ6.out.c0, HQ6.out.c1, HQ6.out.c2, HQ6.out.c3⟩
    clear p0 p1 p2 p3 pf pl pm r0 r1 r2 r3 rF
    generalize w5.drew = D at *
    refine tk 0 16 rfl ?_
    simp only [pa]
    refine tk 1 17 rfl ?_
    simp only [pa]
    refine tk 2 18 rfl ?_
    simp only [pa]
    refine tk 3 19 rfl ?_
    simp only [pa]
    refine wpAnyH_ready (rs := [4]) (by kernel_rfl) (by simp) ?_
    refine AllReadyH.cons rfl (fun K hK => ?_) AllReadyH.nil
    go_simp
    go_wp2_with (first | (go_at_call 25; refine (HS.out _).mono ?_; rintro e w' ⟨⟨sz, sz0, sz9, rfl⟩, rfl⟩))
    refine hK.out _ _ ?_ (fun hHeld => ?_)
    · try dsimp only
      exact hHeld
    clear hK K
    refine wpAnyH_ready (rs := [5]) (by kernel_rfl) (by simp) ?_
    refine AllReadyH.cons rfl (fun K hK => ?_) AllReadyH.nil
    go_simp
    go_wp2_with (first | (go_at_call 23; refine (l2List_any (w.heap.size + 1) a len cap p sz sz0 (by omega) _ H6.out.cur).mono ?_; rintro e w7 ⟨⟨a7, k, c7, ps, rfl, hk9, rfl, ho⟩, hC7, hK7⟩))
    have H7 := hidP (H6.out.keep hC7 hK7)
    have HQ7 := hidP (HQ6.out.keep hK7 (Nat.le_refl _))
    have HO7 := hidP (OwnR.mono ho (show w.heap.size + 2 ≤ D.heap.size from H6.out.cur.lt))
    clear hC7 hK7 ho
    refine hK.out _ _ ?_ (fun hHeld => ?_)
    · try dsimp only
      exact ⟨HQ7.out.c0, HQ7.out.c1, HQ7.out.c2, HQ7.out.c3⟩
    clear hK K
    refine wpAnyH_ready (rs := [6]) (by kernel_rfl) (by simp) ?_
    refine AllReadyH.cons rfl (fun K hK => ?_) AllReadyH.nil
    have r0 := H7.out.r0
    have r1 := H7.out.r1
    have r2 := H7.out.r2
    have r3 := H7.out.r3
    have rF := H7.out.rF
    go_simp
    clear r0 r1 r2 r3 rF
    have H8 : Hid (DI w ((((w7.setCell ⟨w.heap.size, 0, none⟩ (.bool p.s)).setCell ⟨w.heap.size, 1, none⟩ (.int .i64 p.H.toInt)).setCell ⟨w.heap.size, 2, none⟩ (.int .i64 p.L.toInt)).setCell ⟨w.heap.size, 3, none⟩ (.int .i64 p.b)) a len cap (.bool p.s) (.int .i64 p.H.toInt) (.int .i64 p.L.toInt) (.int .i64 p.b)) := hidP (H7.out.put HAh.out p)
    have HQ8 : Hid (NB ((((w7.setCell ⟨w.heap.size, 0, none⟩ (.bool p.s)).setCell ⟨w.heap.size, 1, none⟩ (.int .i64 p.H.toInt)).setCell ⟨w.heap.size, 2, none⟩ (.int .i64 p.L.toInt)).setCell ⟨w.heap.size, 3, none⟩ (.int .i64 p.b)) x5 (w.heap.size + 1) p) := hidP (HQ7.out.far (x := w.heap.size) (by omega) p)
    have HO8 := hidP (((((HO7.out.setC (x := w.heap.size) (o := 0) (fun g hg => by have := (HO7.out.lt g hg).1; omega) (.bool p.s)).setC (x := w.heap.size) (o := 1) (fun g hg => by have := (HO7.out.lt g hg).1; omega) (.int .i64 p.H.toInt)).setC (x := w.heap.size) (o := 2) (fun g hg => by have := (HO7.out.lt g hg).1; omega) (.int .i64 p.L.toInt)).setC (x := w.heap.size) (o := 3) (fun g hg => by have := (HO7.out.lt g hg).1; omega) (.int .i64 p.b)))
    generalize (((w7.setCell ⟨w.heap.size, 0, none⟩ (.bool p.s)).setCell ⟨w.heap.size, 1, none⟩ (.int .i64 p.H.toInt)).setCell ⟨w.heap.size, 2, none⟩ (.int .i64 p.L.toInt)).setCell ⟨w.heap.size, 3, none⟩ (.int .i64 p.b) = W8 at *
    refine hK.out _ _ ?_ (fun hHeld => ?_)
    · try dsimp only
      exact ⟨HQ8.out.c0, HQ8.out.c1, HQ8.out.c2, HQ8.out.c3⟩
    clear hK K
    refine tk 7 3 rfl ?_
    simp only [pa]
    refine wpAnyH_done (by kernel_rfl) ?_ _
    clear hHeld
    have r0 := H8.out.r0
    have r1 := H8.out.r1
    have r2 := H8.out.r2
    have r3 := H8.out.r3
    go_wp2_with fail
    refine bodyPost_ret (v := .tuple #[.agg #[.bool p.s, .int .i64 p.H.toInt, .int .i64 p.L.toInt, .int .i64 p.b], .slice a7 ps.length c7]) (by simp [results, Try.results13, go_sem, r0, r1, r2, r3]) rfl ⟨p, a7, ps.length, c7, ps, rfl, hk9, rfl, OwnR.mono HO8.out (by omega), H8.out.low⟩
  · obtain ⟨c5, l5, r0, r1, r2, r3, rF⟩ := H5.out
    clear c5 l5
    go_wp2_with fail
    refine (l2Apart_any (w.heap.size + 1) a len cap _ H5.out.cur).mono ?_
    rintro e w6 ⟨⟨a7, k, c7, ps, hk, hk9, rfl, ho⟩, hC6, hK6⟩
    have H6 := hidP (H5.out.keep hC6 hK6)
    have HO6 := hidP (OwnR.mono ho (show w.heap.size + 2 ≤ w5.heap.size from H5.out.cur.lt))
    have HK6 := hidP hk
    clear hC6 hK6 ho hk r0 r1 r2 r3 rF
    obtain ⟨c5, l5, r0, r1, r2, r3, rF⟩ := H6.out
    clear c5 l5
    go_wp2_with fail
    have hz : (0 : BitVec 64).toInt = 0 := by decide
    have H8 := H6.out.put HAh.out ⟨true, 0, 0, 0⟩
    have hne : ∀ g, (Value.slice a7 k c7).ownBlock = some g → g ≠ w.heap.size := fun g hg => by have := (HO6.out.lt g hg).1; omega
    have O8 := (((HO6.out.setC (x := w.heap.size) (o := 0) hne (.bool true)).setC (x := w.heap.size) (o := 1) hne (.int .i64 0)).setC (x := w.heap.size) (o := 2) hne (.int .i64 0)).setC (x := w.heap.size) (o := 3) hne (.int .i64 0)
    refine bodyPost_ret (v := .tuple #[.agg #[.bool true, .int .i64 0, .int .i64 0, .int .i64 0], .slice a7 k c7]) (by simp [results, Try.results13, go_sem, r0, r1, r2, r3]) rfl ⟨⟨true, 0, 0, 0⟩, a7, k, c7, ps, HK6.out, hk9, by rw [hz], OwnR.mono O8 (by omega), ?_⟩
    have hl8 := H8.low
    simp only [put4, hz] at hl8
    exact hl8

end Go.Proofs.Ytgohffeneibhdaa

namespace Go.Proofs.Ytgohffeneibhdaa
open Go.RowKit

set_option maxHeartbeats 1000000 in
theorem iOverlaps_any (s : Bool) (H L : BitVec 64) (b : Int) (s' : Bool) (H' L' : BitVec 64) (b' : Int) (w : World) :
    Calls Try.prog 10 #[.agg #[.bool s, .int .i64 H.toInt, .int .i64 L.toInt, .int .i64 b], .agg #[.bool s', .int .i64 H'.toInt, .int .i64 L'.toInt, .int .i64 b']] w fun e w' => e = .returned (.bool (winB s H L b s' H' L' b' || winB s' H' L' b' s H L b)) ∧ Below w.heap.size w w' := by
  cases hp : pokB s H L b
  · rw [win_no1 hp, win_no2 hp, Bool.or_false]
    have HS : Hid (∀ w, _) := spanOf_no s H L b hp
    clear hp
    cases hq : pokB s' H' L' b'
    · have HT : Hid (∀ w, _) := spanOf_no s' H' L' b' hq
      clear hq
      go_enter Try.func10, Try.ntmps10
      go_wp2_with fail
      refine (HS.out _).mono ?_
      rintro e w1 ⟨rfl, hb1⟩
      have hz1 := hb1.size
      try simp at hz1
      have f10 : w.heap.size < w1.heap.size := by omega
      have f11 : w.heap.size + 1 < w1.heap.size := by omega
      refine olds_k (w.heap.size + 2) hb1 ?_ ?_
      · first | omega | (simp; omega) | (simp; done)
      intro hc1 hf1
      go_wp2_with fail
      refine (HT.out _).mono ?_
      rintro e w2 ⟨rfl, hb2⟩
      have hz2 := hb2.size
      try simp at hz2
      have f2x0 : w.heap.size < w2.heap.size := by omega
      have f2x1 : w.heap.size + 1 < w2.heap.size := by omega
      have f2x2 : w1.heap.size < w2.heap.size := by omega
      have f2x3 : w.heap.size + 1 < w1.heap.size + 1 := by omega
      refine olds_k (w1.heap.size + 1) hb2 ?_ ?_
      · first | omega | (simp; omega) | (simp; done)
      intro hc2 hf2
      go_wp2_with fail
      go_ret
      refine ⟨rfl, ?_⟩
      repeat (first | with_reducible exact Below.refl _ _ | (with_reducible refine Below.drew ?_) | (with_reducible refine Below.alloc ?_ ?_ _; rotate_left; (focus (first | omega | (simp; omega) | (simp; done)))) | (with_reducible refine Below.setCell ?_ ?_ _; rotate_left; (focus (first | omega | (simp; omega) | (simp; done)))) | (with_reducible refine Below.trans ?_ (hb2.mono ?_); rotate_left; (focus (first | omega | (simp; omega) | (simp; done)))) | (with_reducible refine Below.trans ?_ (hb1.mono ?_); rotate_left; (focus (first | omega | (simp; omega) | (simp; done)))))
    · obtain ⟨m, hm⟩ : ∃ m : Nat, (m : Int) = (wd s' : Int) - b' := ⟨((wd s' : Int) - b').toNat, by have := (pokB_parts hq).2.1; omega⟩
      have HT : Hid (∀ w, _) := spanOf_yes s' H' L' b' m hm hq
      clear hq hm
      go_enter Try.func10, Try.ntmps10
      go_wp2_with fail
      refine (HS.out _).mono ?_
      rintro e w1 ⟨rfl, hb1⟩
      have hz1 := hb1.size
      try simp at hz1
      have f10 : w.heap.size < w1.heap.size := by omega
      have f11 : w.heap.size + 1 < w1.heap.size := by omega
      refine olds_k (w.heap.size + 2) hb1 ?_ ?_
      · first | omega | (simp; omega) | (simp; done)
      intro hc1 hf1
      go_wp2_with fail
      refine (HT.out _).mono ?_
      rintro e w2 ⟨rfl, hb2⟩
      have hz2 := hb2.size
      try simp at hz2
      have f2x0 : w.heap.size < w2.heap.size := by omega
      have f2x1 : w.heap.size + 1 < w2.heap.size := by omega
      have f2x2 : w1.heap.size < w2.heap.size := by omega
      have f2x3 : w.heap.size + 1 < w1.heap.size + 1 := by omega
      refine olds_k (w1.heap.size + 1) hb2 ?_ ?_
      · first | omega | (simp; omega) | (simp; done)
      intro hc2 hf2
      go_wp2_with fail
      go_ret
      refine ⟨rfl, ?_⟩
      repeat (first | with_reducible exact Below.refl _ _ | (with_reducible refine Below.drew ?_) | (with_reducible refine Below.alloc ?_ ?_ _; rotate_left; (focus (first | omega | (simp; omega) | (simp; done)))) | (with_reducible refine Below.setCell ?_ ?_ _; rotate_left; (focus (first | omega | (simp; omega) | (simp; done)))) | (with_reducible refine Below.trans ?_ (hb2.mono ?_); rotate_left; (focus (first | omega | (simp; omega) | (simp; done)))) | (with_reducible refine Below.trans ?_ (hb1.mono ?_); rotate_left; (focus (first | omega | (simp; omega) | (simp; done)))))
  · obtain ⟨n, hn⟩ : ∃ n : Nat, (n : Int) = (wd s : Int) - b := ⟨((wd s : Int) - b).toNat, by have := (pokB_parts hp).2.1; omega⟩
    have HS : Hid (∀ w, _) := spanOf_yes s H L b n hn hp
    cases hq : pokB s' H' L' b'
    · rw [win_no2 hq, win_no1 hq, Bool.or_false]
      have HT : Hid (∀ w, _) := spanOf_no s' H' L' b' hq
      clear hq hp hn
      go_enter Try.func10, Try.ntmps10
      go_wp2_with fail
      refine (HS.out _).mono ?_
      rintro e w1 ⟨rfl, hb1⟩
      have hz1 := hb1.size
      try simp at hz1
      have f10 : w.heap.size < w1.heap.size := by omega
      have f11 : w.heap.size + 1 < w1.heap.size := by omega
      refine olds_k (w.heap.size + 2) hb1 ?_ ?_
      · first | omega | (simp; omega) | (simp; done)
      intro hc1 hf1
      go_wp2_with fail
      refine (HT.out _).mono ?_
      rintro e w2 ⟨rfl, hb2⟩
      have hz2 := hb2.size
      try simp at hz2
      have f2x0 : w.heap.size < w2.heap.size := by omega
      have f2x1 : w.heap.size + 1 < w2.heap.size := by omega
      have f2x2 : w1.heap.size < w2.heap.size := by omega
      have f2x3 : w.heap.size + 1 < w1.heap.size + 1 := by omega
      refine olds_k (w1.heap.size + 1) hb2 ?_ ?_
      · first | omega | (simp; omega) | (simp; done)
      intro hc2 hf2
      go_wp2_with fail
      go_ret
      refine ⟨rfl, ?_⟩
      repeat (first | with_reducible exact Below.refl _ _ | (with_reducible refine Below.drew ?_) | (with_reducible refine Below.alloc ?_ ?_ _; rotate_left; (focus (first | omega | (simp; omega) | (simp; done)))) | (with_reducible refine Below.setCell ?_ ?_ _; rotate_left; (focus (first | omega | (simp; omega) | (simp; done)))) | (with_reducible refine Below.trans ?_ (hb2.mono ?_); rotate_left; (focus (first | omega | (simp; omega) | (simp; done)))) | (with_reducible refine Below.trans ?_ (hb1.mono ?_); rotate_left; (focus (first | omega | (simp; omega) | (simp; done)))))
    · obtain ⟨m, hm⟩ : ∃ m : Nat, (m : Int) = (wd s' : Int) - b' := ⟨((wd s' : Int) - b').toNat, by have := (pokB_parts hq).2.1; omega⟩
      rw [win_with hp hq hn hm, win_with hq hp hm hn]
      have hn1 : n ≤ 128 := by have := wd_le' s; have := (pokB_parts hp).2.1; omega
      have hm1 : m ≤ 128 := by have := wd_le' s'; have := (pokB_parts hq).2.1; omega
      have HT : Hid (∀ w, _) := spanOf_yes s' H' L' b' m hm hq
      have HW : Hid (∀ w, _) := overlaps_any s H L n hn1 s' H' L' m hm1
      generalize (withB s H L n s' H' L' m || withB s' H' L' m s H L n) = B1 at HW ⊢
      clear hq hm hp hn
      go_enter Try.func10, Try.ntmps10
      go_wp2_with fail
      refine (HS.out _).mono ?_
      rintro e w1 ⟨rfl, hb1⟩
      have hz1 := hb1.size
      try simp at hz1
      have f10 : w.heap.size < w1.heap.size := by omega
      have f11 : w.heap.size + 1 < w1.heap.size := by omega
      refine olds_k (w.heap.size + 2) hb1 ?_ ?_
      · first | omega | (simp; omega) | (simp; done)
      intro hc1 hf1
      go_wp2_with fail
      refine (HT.out _).mono ?_
      rintro e w2 ⟨rfl, hb2⟩
      have hz2 := hb2.size
      try simp at hz2
      have f2x0 : w.heap.size < w2.heap.size := by omega
      have f2x1 : w.heap.size + 1 < w2.heap.size := by omega
      have f2x2 : w1.heap.size < w2.heap.size := by omega
      have f2x3 : w.heap.size + 1 < w1.heap.size + 1 := by omega
      refine olds_k (w1.heap.size + 1) hb2 ?_ ?_
      · first | omega | (simp; omega) | (simp; done)
      intro hc2 hf2
      go_wp2_with fail
      refine (HW.out _).mono ?_
      rintro e w3 ⟨rfl, hb3⟩
      have hz3 := hb3.size
      try simp at hz3
      have f30 : w.heap.size < w3.heap.size := by omega
      have f31 : w.heap.size + 1 < w3.heap.size := by omega
      refine olds_k (w.heap.size + 2) hb3 ?_ ?_
      · first | omega | (simp; omega) | (simp; done)
      intro hc3 hf3
      go_wp2_with fail
      go_ret
      refine ⟨rfl, ?_⟩
      repeat (first | with_reducible exact Below.refl _ _ | (with_reducible refine Below.drew ?_) | (with_reducible refine Below.alloc ?_ ?_ _; rotate_left; (focus (first | omega | (simp; omega) | (simp; done)))) | (with_reducible refine Below.setCell ?_ ?_ _; rotate_left; (focus (first | omega | (simp; omega) | (simp; done)))) | (with_reducible refine Below.trans ?_ (hb3.mono ?_); rotate_left; (focus (first | omega | (simp; omega) | (simp; done)))) | (with_reducible refine Below.trans ?_ (hb2.mono ?_); rotate_left; (focus (first | omega | (simp; omega) | (simp; done)))) | (with_reducible refine Below.trans ?_ (hb1.mono ?_); rotate_left; (focus (first | omega | (simp; omega) | (simp; done)))))

end Go.Proofs.Ytgohffeneibhdaa

namespace Go.Proofs.Ytgohffeneibhdaa
open Go.ChangeShapes Go.WideShapes Go.ChangeAt Go.RowKit Go.Joins Go.Deep

theorem Try.ownW : ownKnob Try.prog.godebug = none := by kernel_rfl
theorem Try.laidOutW : laidOutB Try.prog = true := by kernel_rfl
theorem Try.cellsByteW : Try.prog.cellsOf 5 = 1 := by kernel_rfl

/-- The code's bytes out of the reading of a row of bytes. -/
theorem bytes_open {H : Type} {enc : TypeId × Value → H} {W : World} {a : Option Addr} {len cap : Nat} {d : DataW H} {p : List MemPlace}
    (h : DataW.Trod enc Try.prog W 0 (fun _ => true) true 22 (.slice a len cap) d p) : Bytes W a len := by
  obtain ⟨fuel, hf⟩ := h
  rcases open_slice1 Try.underlying22 Try.cellsByteW hf with ⟨hcs, _⟩ | ⟨a', len', cap', m, n, V, D, Pl, hcs, _, hl, _, hm, _, hV⟩
  · simp [Value.cells] at hcs
    obtain ⟨rfl, rfl, rfl⟩ := hcs
    exact fun j hj => absurd hj (Nat.not_lt_zero j)
  · simp [Value.cells] at hcs
    obtain ⟨rfl, rfl, rfl⟩ := hcs
    intro j hj
    simp at hm
    obtain ⟨hc, ht⟩ := hV j (by omega)
    obtain ⟨v, e, _, wv⟩ := DataW.trod_int Try.underlying5 ht
    simp at e
    rw [e] at hc
    have hb : 0 ≤ v ∧ v ≤ 255 := by simpa [Lit.wf, IntKind.min, IntKind.max, IntKind.signed, IntKind.bits] using wv
    obtain ⟨p', o', sp⟩ := a'
    cases sp with
    | some q =>
      exfalso
      have h0 := (hV 0 (by omega)).1
      rw [show Addr.add ⟨p', o', some q⟩ 0 = ⟨p', o', some q⟩ from rfl] at h0
      unfold World.cell? at h0
      split at h0
      · simp at h0
      · cases h0
    | none =>
      have hc' : W.cell? ⟨p', o' + j, none⟩ = some (.int .u8 v) := by
        cases j with
        | zero => simpa [Addr.add] using hc
        | succ i => simpa [Addr.add] using hc
      exact ⟨p', o', v, rfl, World.block_lt_of_cell? W _ hc', hc', hb.1, by omega⟩

end Go.Proofs.Ytgohffeneibhdaa
