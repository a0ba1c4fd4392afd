/-
  The specification's l4Asked: whether a pool, a row and so many bits are as the chapter wants them.
-/
import Derived.Test.YtdbcdichmmcnbaaGreatZK27
import Derived.Test.YtdbcdichmmcnbaaGreatZK30
import Derived.Test.YtdbcdichmmcnbaaGreatZK5
import Derived.Test.YtdbcdichmmcnbaaGreatZK6
import Derived.Test.YtdbcdichmmcnbaaGreatZK1
namespace Go.Proofs.YtdbcdichmmcnbaaGreat
open Go.RowKit

def askB (p : Pf) (ps : List Pf) (bits : Int) : Bool := p.pok && rightP ps && decide (p.b ≤ bits ∧ bits ≤ (wd p.s : Int))

set_option maxRecDepth 10000 in
set_option maxHeartbeats 1000000 in
theorem l4Asked_p (p : Pf) (a : Option Addr) (cap : Nat) (ps : List Pf) (bits : Int) (w : World) (hB : Row w a ps) (hl : ps.length ≤ 1048576) (hpk : pokB p.s p.H p.L p.b = false) :
    Calls Tryz.prog 95 #[.agg #[.bool p.s, .int .i64 p.H.toInt, .int .i64 p.L.toInt, .int .i64 p.b], .slice a ps.length cap, .int .i64 bits] w fun e w' => e = .returned (.bool false) ∧ Below w.heap.size w w' := by
  have hP := sPrefixOk_any p.s p.H p.L p.b
  rw [hpk] at hP
  have HP := hidP hP
  have HR : Hid (∀ (wx : World) (_ : Row wx a ps), Calls Tryz.prog 126 #[.slice a ps.length cap] wx fun e w' => e = .returned (.bool (rightP ps)) ∧ Below wx.heap.size wx w') := hidP fun wx h => l2Right_any a cap ps wx h hl
  have HB := hidP hB
  obtain ⟨n, hn⟩ : ∃ n, n = ps.length := ⟨_, rfl⟩
  rw [← hn] at hl HR ⊢
  clear hB hn hP hpk
  go_enter Tryz.func95, Tryz.ntmps95
  go_wp2_with fail
  have hbx := box_cells w 31 p
  have hb1 : Below w.heap.size w (w.alloc (.cells #[.bool p.s, .int .i64 p.H.toInt, .int .i64 p.L.toInt, .int .i64 p.b] 31)) := (Below.refl _ w).alloc (Nat.le_refl _) _
  have hs1 : w.heap.size < (w.alloc (.cells #[.bool p.s, .int .i64 p.H.toInt, .int .i64 p.L.toInt, .int .i64 p.b] 31)).heap.size := by simp
  generalize w.alloc (.cells #[.bool p.s, .int .i64 p.H.toInt, .int .i64 p.L.toInt, .int .i64 p.b] 31) = W1 at *
  have HSx : Hid (∀ x, Below W1.heap.size W1 x → (x.cell? ⟨w.heap.size, 0, none⟩ = some (.bool p.s) ∧ x.cell? ⟨w.heap.size, 1, none⟩ = some (.int .i64 p.H.toInt) ∧ x.cell? ⟨w.heap.size, 2, none⟩ = some (.int .i64 p.L.toInt) ∧ x.cell? ⟨w.heap.size, 3, none⟩ = some (.int .i64 p.b) ∧ Below W1.heap.size W1 x)) := hidP fun x h =>
    ⟨(h.cell hs1).trans hbx.1, (h.cell hs1).trans hbx.2.1, (h.cell hs1).trans hbx.2.2.1, (h.cell hs1).trans hbx.2.2.2, h⟩
  have HB1 := hidP hb1
  clear hbx hb1
  refine wp_region_held_drew (S := (fun x => x.cell? ⟨w.heap.size, 0, none⟩ = some (.bool p.s) ∧ x.cell? ⟨w.heap.size, 1, none⟩ = some (.int .i64 p.H.toInt) ∧ x.cell? ⟨w.heap.size, 2, none⟩ = some (.int .i64 p.L.toInt) ∧ x.cell? ⟨w.heap.size, 3, none⟩ = some (.int .i64 p.b) ∧ Below W1.heap.size W1 x)) (by kernel_rfl) ?_ (fun hHeld => ?_)
  · try dsimp only
    exact HSx.out _ (Below.refl _ _).drew
  refine tk 0 7 rfl ?_
  simp only [pa]
  refine wpAnyH_ready (rs := [1]) (by kernel_rfl) (by simp) ?_
  refine AllReadyH.cons rfl (fun K hK => ?_) AllReadyH.nil
  go_simp
  go_wp2_with (go_at_call 42; refine (HP.out _).mono ?_; rintro e w2 ⟨rfl, hb2⟩; have b2 := (lastB hHeld).trans (hb2.mono (lastB hHeld).size))
  refine hK.out _ _ ?_ (fun hHeld => ?_)
  · try dsimp only
    exact HSx.out _ b2
  clear hK K
  refine tk 2 9 rfl ?_
  simp only [pa]
  refine sk 3 10 rfl ?_
  simp only [pa]
  refine sk 4 11 rfl ?_
  simp only [pa]
  refine tk 5 12 rfl ?_
  simp only [pa]
  refine tk 6 13 rfl ?_
  simp only [pa]
  refine sk 7 14 rfl ?_
  simp only [pa]
  refine sk 8 15 rfl ?_
  simp only [pa]
  refine sk 9 16 rfl ?_
  simp only [pa]
  refine sk 10 17 rfl ?_
  simp only [pa]
  refine sk 11 18 rfl ?_
  simp only [pa]
  refine sk 12 19 rfl ?_
  simp only [pa]
  refine sk 13 20 rfl ?_
  simp only [pa]
  refine tk 14 21 rfl ?_
  simp only [pa]
  refine tk 15 6 rfl ?_
  simp only [pa]
  refine wpAnyH_done (by kernel_rfl) ?_ _
  have HE := hidP (HB1.out.trans (b2.mono HB1.out.size))
  clear hHeld
  go_wp2_with fail
  go_ret
  first | exact ⟨rfl, HE.out⟩ | trace_state

end Go.Proofs.YtdbcdichmmcnbaaGreat

/-
  The specification's l4Asked: whether a pool, a row and so many bits are as the chapter wants them.
-/
namespace Go.Proofs.YtdbcdichmmcnbaaGreat
open Go.RowKit

set_option maxRecDepth 10000 in
set_option maxHeartbeats 1000000 in
theorem l4Asked_r (p : Pf) (a : Option Addr) (cap : Nat) (ps : List Pf) (bits : Int) (w : World) (hB : Row w a ps) (hl : ps.length ≤ 1048576) (hpk : pokB p.s p.H p.L p.b = true) (hr : rightP ps = false) :
    Calls Tryz.prog 95 #[.agg #[.bool p.s, .int .i64 p.H.toInt, .int .i64 p.L.toInt, .int .i64 p.b], .slice a ps.length cap, .int .i64 bits] w fun e w' => e = .returned (.bool false) ∧ Below w.heap.size w w' := by
  have hP := sPrefixOk_any p.s p.H p.L p.b
  rw [hpk] at hP
  have HP := hidP hP
  have HR : Hid (∀ (wx : World) (_ : Row wx a ps), Calls Tryz.prog 126 #[.slice a ps.length cap] wx fun e w' => e = .returned (.bool (rightP ps)) ∧ Below wx.heap.size wx w') := hidP fun wx h => l2Right_any a cap ps wx h hl
  rw [hr] at HR
  clear hr
  have HB := hidP hB
  obtain ⟨n, hn⟩ : ∃ n, n = ps.length := ⟨_, rfl⟩
  rw [← hn] at hl HR ⊢
  clear hB hn hP hpk
  go_enter Tryz.func95, Tryz.ntmps95
  go_wp2_with fail
  have hbx := box_cells w 31 p
  have hb1 : Below w.heap.size w (w.alloc (.cells #[.bool p.s, .int .i64 p.H.toInt, .int .i64 p.L.toInt, .int .i64 p.b] 31)) := (Below.refl _ w).alloc (Nat.le_refl _) _
  have hs1 : w.heap.size < (w.alloc (.cells #[.bool p.s, .int .i64 p.H.toInt, .int .i64 p.L.toInt, .int .i64 p.b] 31)).heap.size := by simp
  generalize w.alloc (.cells #[.bool p.s, .int .i64 p.H.toInt, .int .i64 p.L.toInt, .int .i64 p.b] 31) = W1 at *
  have HSx : Hid (∀ x, Below W1.heap.size W1 x → (x.cell? ⟨w.heap.size, 0, none⟩ = some (.bool p.s) ∧ x.cell? ⟨w.heap.size, 1, none⟩ = some (.int .i64 p.H.toInt) ∧ x.cell? ⟨w.heap.size, 2, none⟩ = some (.int .i64 p.L.toInt) ∧ x.cell? ⟨w.heap.size, 3, none⟩ = some (.int .i64 p.b) ∧ Below W1.heap.size W1 x)) := hidP fun x h =>
    ⟨(h.cell hs1).trans hbx.1, (h.cell hs1).trans hbx.2.1, (h.cell hs1).trans hbx.2.2.1, (h.cell hs1).trans hbx.2.2.2, h⟩
  have HB1 := hidP hb1
  clear hbx hb1
  refine wp_region_held_drew (S := (fun x => x.cell? ⟨w.heap.size, 0, none⟩ = some (.bool p.s) ∧ x.cell? ⟨w.heap.size, 1, none⟩ = some (.int .i64 p.H.toInt) ∧ x.cell? ⟨w.heap.size, 2, none⟩ = some (.int .i64 p.L.toInt) ∧ x.cell? ⟨w.heap.size, 3, none⟩ = some (.int .i64 p.b) ∧ Below W1.heap.size W1 x)) (by kernel_rfl) ?_ (fun hHeld => ?_)
  · try dsimp only
    exact HSx.out _ (Below.refl _ _).drew
  refine tk 0 7 rfl ?_
  simp only [pa]
  refine wpAnyH_ready (rs := [1]) (by kernel_rfl) (by simp) ?_
  refine AllReadyH.cons rfl (fun K hK => ?_) AllReadyH.nil
  go_simp
  go_wp2_with (go_at_call 42; refine (HP.out _).mono ?_; rintro e w2 ⟨rfl, hb2⟩; have b2 := (lastB hHeld).trans (hb2.mono (lastB hHeld).size))
  refine hK.out _ _ ?_ (fun hHeld => ?_)
  · try dsimp only
    exact HSx.out _ b2
  clear hK K
  refine tk 2 9 rfl ?_
  simp only [pa]
  refine tk 3 10 rfl ?_
  simp only [pa]
  refine wpAnyH_ready (rs := [4]) (by kernel_rfl) (by simp) ?_
  refine AllReadyH.cons rfl (fun K hK => ?_) AllReadyH.nil
  go_simp
  go_wp2_with (go_at_call 126; refine (HR.out _ (HB.out.later (HB1.out.trans ((lastB hHeld).mono HB1.out.size)))).mono ?_; rintro e w3 ⟨rfl, hb3⟩; have b3 := (lastB hHeld).trans (hb3.mono (lastB hHeld).size))
  refine hK.out _ _ ?_ (fun hHeld => ?_)
  · try dsimp only
    exact HSx.out _ b3
  clear hK K
  refine tk 5 12 rfl ?_
  simp only [pa]
  refine tk 6 13 rfl ?_
  simp only [pa]
  refine sk 7 14 rfl ?_
  simp only [pa]
  refine sk 8 15 rfl ?_
  simp only [pa]
  refine sk 9 16 rfl ?_
  simp only [pa]
  refine sk 10 17 rfl ?_
  simp only [pa]
  refine sk 11 18 rfl ?_
  simp only [pa]
  refine sk 12 19 rfl ?_
  simp only [pa]
  refine sk 13 20 rfl ?_
  simp only [pa]
  refine tk 14 21 rfl ?_
  simp only [pa]
  refine tk 15 6 rfl ?_
  simp only [pa]
  refine wpAnyH_done (by kernel_rfl) ?_ _
  have HE := hidP (HB1.out.trans (b3.mono HB1.out.size))
  clear hHeld
  go_wp2_with fail
  go_ret
  first | exact ⟨rfl, HE.out⟩ | trace_state

end Go.Proofs.YtdbcdichmmcnbaaGreat

/-
  The specification's l4Asked: whether a pool, a row and so many bits are as the chapter wants them.
-/
namespace Go.Proofs.YtdbcdichmmcnbaaGreat
open Go.RowKit

set_option maxRecDepth 10000 in
set_option maxHeartbeats 1000000 in
theorem l4Asked_b (p : Pf) (a : Option Addr) (cap : Nat) (ps : List Pf) (bits : Int) (w : World) (hB : Row w a ps) (hl : ps.length ≤ 1048576) (hpk : pokB p.s p.H p.L p.b = true) (hr : rightP ps = true) :
    Calls Tryz.prog 95 #[.agg #[.bool p.s, .int .i64 p.H.toInt, .int .i64 p.L.toInt, .int .i64 p.b], .slice a ps.length cap, .int .i64 bits] w fun e w' => e = .returned (.bool (decide (p.b ≤ bits ∧ bits ≤ (wd p.s : Int)))) ∧ Below w.heap.size w w' := by
  have hP := sPrefixOk_any p.s p.H p.L p.b
  rw [hpk] at hP
  have HP := hidP hP
  have HR : Hid (∀ (wx : World) (_ : Row wx a ps), Calls Tryz.prog 126 #[.slice a ps.length cap] wx fun e w' => e = .returned (.bool (rightP ps)) ∧ Below wx.heap.size wx w') := hidP fun wx h => l2Right_any a cap ps wx h hl
  rw [hr] at HR
  have HWd := hidP (l2Width_any p.s p.H.toInt p.L.toInt)
  have HIn : Hid (∀ wx : World, Calls Tryz.prog 92 #[.int .i64 bits, .int .i64 p.b, .int .i64 (wd p.s)] wx fun e w' => e = .returned (.bool (decide (p.b ≤ bits ∧ bits ≤ (wd p.s : Int)))) ∧ Below wx.heap.size wx w') := hidP fun wx => (l1In_any bits p.b (wd p.s) wx).mono fun e w' h => ⟨h.1, by rw [h.2]; exact Below.refl _ _⟩
  generalize decide (p.b ≤ bits ∧ bits ≤ (wd p.s : Int)) = d at *
  clear hr
  have HB := hidP hB
  obtain ⟨n, hn⟩ : ∃ n, n = ps.length := ⟨_, rfl⟩
  rw [← hn] at hl HR ⊢
  clear hB hn hP hpk
  go_enter Tryz.func95, Tryz.ntmps95
  go_wp2_with fail
  have hbx := box_cells w 31 p
  have hb1 : Below w.heap.size w (w.alloc (.cells #[.bool p.s, .int .i64 p.H.toInt, .int .i64 p.L.toInt, .int .i64 p.b] 31)) := (Below.refl _ w).alloc (Nat.le_refl _) _
  have hs1 : w.heap.size < (w.alloc (.cells #[.bool p.s, .int .i64 p.H.toInt, .int .i64 p.L.toInt, .int .i64 p.b] 31)).heap.size := by simp
  generalize w.alloc (.cells #[.bool p.s, .int .i64 p.H.toInt, .int .i64 p.L.toInt, .int .i64 p.b] 31) = W1 at *
  have HSx : Hid (∀ x, Below W1.heap.size W1 x → (x.cell? ⟨w.heap.size, 0, none⟩ = some (.bool p.s) ∧ x.cell? ⟨w.heap.size, 1, none⟩ = some (.int .i64 p.H.toInt) ∧ x.cell? ⟨w.heap.size, 2, none⟩ = some (.int .i64 p.L.toInt) ∧ x.cell? ⟨w.heap.size, 3, none⟩ = some (.int .i64 p.b) ∧ Below W1.heap.size W1 x)) := hidP fun x h =>
    ⟨(h.cell hs1).trans hbx.1, (h.cell hs1).trans hbx.2.1, (h.cell hs1).trans hbx.2.2.1, (h.cell hs1).trans hbx.2.2.2, h⟩
  have HB1 := hidP hb1
  clear hbx hb1
  refine wp_region_held_drew (S := (fun x => x.cell? ⟨w.heap.size, 0, none⟩ = some (.bool p.s) ∧ x.cell? ⟨w.heap.size, 1, none⟩ = some (.int .i64 p.H.toInt) ∧ x.cell? ⟨w.heap.size, 2, none⟩ = some (.int .i64 p.L.toInt) ∧ x.cell? ⟨w.heap.size, 3, none⟩ = some (.int .i64 p.b) ∧ Below W1.heap.size W1 x)) (by kernel_rfl) ?_ (fun hHeld => ?_)
  · try dsimp only
    exact HSx.out _ (Below.refl _ _).drew
  refine tk 0 7 rfl ?_
  simp only [pa]
  refine wpAnyH_ready (rs := [1]) (by kernel_rfl) (by simp) ?_
  refine AllReadyH.cons rfl (fun K hK => ?_) AllReadyH.nil
  go_simp
  go_wp2_with (go_at_call 42; refine (HP.out _).mono ?_; rintro e w2 ⟨rfl, hb2⟩; have b2 := (lastB hHeld).trans (hb2.mono (lastB hHeld).size))
  refine hK.out _ _ ?_ (fun hHeld => ?_)
  · try dsimp only
    exact HSx.out _ b2
  clear hK K
  refine tk 2 9 rfl ?_
  simp only [pa]
  refine tk 3 10 rfl ?_
  simp only [pa]
  refine wpAnyH_ready (rs := [4]) (by kernel_rfl) (by simp) ?_
  refine AllReadyH.cons rfl (fun K hK => ?_) AllReadyH.nil
  go_simp
  go_wp2_with (go_at_call 126; refine (HR.out _ (HB.out.later (HB1.out.trans ((lastB hHeld).mono HB1.out.size)))).mono ?_; rintro e w3 ⟨rfl, hb3⟩; have b3 := (lastB hHeld).trans (hb3.mono (lastB hHeld).size))
  refine hK.out _ _ ?_ (fun hHeld => ?_)
  · try dsimp only
    exact HSx.out _ b3
  clear hK K
  refine tk 5 12 rfl ?_
  simp only [pa]
  refine tk 6 13 rfl ?_
  simp only [pa]
  refine tk 7 14 rfl ?_
  simp only [pa]
  refine tk 8 15 rfl ?_
  simp only [pa]
  refine tk 9 16 rfl ?_
  simp only [pa]
  refine tk 10 17 rfl ?_
  simp only [pa]
  refine tk 11 18 rfl ?_
  simp only [pa]
  refine wpAnyH_ready (rs := [12]) (by kernel_rfl) (by simp) ?_
  refine AllReadyH.cons rfl (fun K hK => ?_) AllReadyH.nil
  go_simp
  go_wp2_with (go_at_call 93; refine (HWd.out _).mono ?_; rintro e w4 ⟨rfl, hb4⟩; have b4 := (lastB hHeld).trans (hb4.mono (lastB hHeld).size))
  refine hK.out _ _ ?_ (fun hHeld => ?_)
  · try dsimp only
    exact HSx.out _ b4
  clear hK K
  refine wpAnyH_ready (rs := [13]) (by kernel_rfl) (by simp) ?_
  refine AllReadyH.cons rfl (fun K hK => ?_) AllReadyH.nil
  go_simp
  go_wp2_with (go_at_call 92; refine (HIn.out _).mono ?_; rintro e w5 ⟨rfl, hb5⟩; have b5 := (lastB hHeld).trans (hb5.mono (lastB hHeld).size))
  refine hK.out _ _ ?_ (fun hHeld => ?_)
  · try dsimp only
    exact HSx.out _ b5
  clear hK K
  refine tk 14 21 rfl ?_
  simp only [pa]
  refine tk 15 6 rfl ?_
  simp only [pa]
  refine wpAnyH_done (by kernel_rfl) ?_ _
  have HE := hidP (HB1.out.trans (b5.mono HB1.out.size))
  clear hHeld
  go_wp2_with fail
  go_ret
  first | exact ⟨rfl, HE.out⟩ | trace_state

end Go.Proofs.YtdbcdichmmcnbaaGreat

/-
  The specification's l4Asked: whether a pool, a row and so many bits are as the chapter wants them.
-/
namespace Go.Proofs.YtdbcdichmmcnbaaGreat
open Go.RowKit

theorem l4Asked_any (p : Pf) (a : Option Addr) (cap : Nat) (ps : List Pf) (bits : Int) (w : World) (hB : Row w a ps) (hl : ps.length ≤ 1048576) :
    Calls Tryz.prog 95 #[.agg #[.bool p.s, .int .i64 p.H.toInt, .int .i64 p.L.toInt, .int .i64 p.b], .slice a ps.length cap, .int .i64 bits] w fun e w' => e = .returned (.bool (askB p ps bits)) ∧ Below w.heap.size w w' := by
  unfold askB Pf.pok
  cases hpk : pokB p.s p.H p.L p.b
  · rw [Bool.false_and, Bool.false_and]; exact l4Asked_p p a cap ps bits w hB hl hpk
  · cases hr : rightP ps
    · rw [Bool.and_false, Bool.false_and]; exact l4Asked_r p a cap ps bits w hB hl hpk hr
    · rw [Bool.and_true, Bool.true_and]; exact l4Asked_b p a cap ps bits w hB hl hpk hr

end Go.Proofs.YtdbcdichmmcnbaaGreat

/-
  The program's FirstFree: the first that partsFor hands out, or none.
-/
namespace Go.Proofs.YtdbcdichmmcnbaaGreat
open Go.RowKit

attribute [local go_sem] Oper.semAt_some

theorem Grw.set {M M' : Nat → Prop} {A V : World} (h : Grw M M' A V) (p : Addr) (u : Value) (hm : M' p.block) : Grw M M' A (V.setCell p u) :=
  h.trans ⟨kpt_set V p u hm, fun _ h _ => h, fun k hk => by rw [show (V.setCell p u).heap.size = V.heap.size by simp [World.setCell]]; exact h.fit k hk⟩
theorem set4 {V : World} {k : Nat} {a b c d a' b' c' d' : Value} {t : TypeId} (h : V.heap[k]? = some (.cells #[a, b, c, d] t)) : ((((V.setCell ⟨k, 0, none⟩ a').setCell ⟨k, 1, none⟩ b').setCell ⟨k, 2, none⟩ c').setCell ⟨k, 3, none⟩ d').heap[k]? = some (.cells #[a', b', c', d'] t) := by
  simp [World.setCell, Array.getElem?_modify, h]
theorem setO {V : World} {k : Nat} {p : Addr} {u : Value} {o : Obj} (hne : k ≠ p.block) (h : V.heap[k]? = some o) : (V.setCell p u).heap[k]? = some o := (Below.heap_setCell V p u k hne).trans h
theorem of4 {V : World} {k : Nat} {a b c d : Value} {t : TypeId} (h : V.heap[k]? = some (.cells #[a, b, c, d] t)) : (V.cell? ⟨k, 0, none⟩ = some a ∧ V.cell? ⟨k, 1, none⟩ = some b ∧ V.cell? ⟨k, 2, none⟩ = some c ∧ V.cell? ⟨k, 3, none⟩ = some d) ∧ V.frozen? ⟨k, 0, none⟩ = false ∧ V.frozen? ⟨k, 1, none⟩ = false ∧ V.frozen? ⟨k, 2, none⟩ = false ∧ V.frozen? ⟨k, 3, none⟩ = false := by
  refine ⟨⟨?_, ?_, ?_, ?_⟩, ?_, ?_, ?_, ?_⟩ <;> simp [World.cell?, World.frozen?, h]
/-- Blocks laid one behind another. -/
def allocs (w : World) : List Obj → World
  | [] => w
  | o :: t => allocs (w.alloc o) t
theorem allocs_below : ∀ (os : List Obj) (w : World), Below w.heap.size w (allocs w os)
  | [], w => Below.refl _ w
  | o :: t, w => ((Below.refl _ w).alloc (Nat.le_refl _) o).trans ((allocs_below t (w.alloc o)).mono (by simp))
theorem allocs_size : ∀ (os : List Obj) (w : World), (allocs w os).heap.size = w.heap.size + os.length
  | [], _ => rfl
  | o :: t, w => by
      show (allocs (w.alloc o) t).heap.size = _
      rw [allocs_size t, World.size_alloc, List.length_cons]; omega
theorem allocs_at : ∀ (os : List Obj) (w : World) (i : Nat) (o : Obj), os[i]? = some o → (allocs w os).heap[w.heap.size + i]? = some o
  | [], _, _, _, h => by simp at h
  | o :: t, w, 0, o', h => by
      have e : o = o' := by simpa using h
      rw [← e]
      exact ((allocs_below t (w.alloc o)).block w.heap.size (by simp)).trans (World.alloc_heap_new w o)
  | o :: t, w, i + 1, o', h => by
      have := allocs_at t (w.alloc o) i o' (by simpa using h)
      rw [World.size_alloc] at this
      rw [show w.heap.size + (i + 1) = w.heap.size + 1 + i by omega]
      exact this
theorem bel_end {w w7 V : World} {M M' : Nat → Prop} (hb : Below w.heap.size w w7) (hg : Grw M M' w7 V) (hM : ∀ k, M k → w.heap.size ≤ k) {D : Nat} (hD : w7.heap.size ≤ D) (o : Obj) : Below w.heap.size w (V.putObj D o) := by
  have hz := hb.size
  exact ⟨hg.kept.os.trans hb.os, hg.kept.tape.trans hb.tape, hg.kept.output.trans hb.output, by have := hg.kept.size; rw [World.putObj_size]; omega, fun k hk => (World.putObj_heap_other (by omega)).trans ((hg.kept.block k (by omega) fun h => by have := hM k h; omega).trans (hb.block k hk))⟩

/-- What FirstFree answers where zs are handed out. -/
def frsV (bits : Int) : List Sp → Value
  | [] => .tuple #[.agg #[.bool false, .int .i64 0, .int .i64 0, .int .i64 0], .bool false]
  | z :: _ => .tuple #[.agg #[.bool z.s, .int .i64 z.H.toInt, .int .i64 z.L.toInt, .int .i64 bits], .bool true]
def frM (s : Nat) (k : Nat) : Prop := k = s + 1 ∨ k = s + 2 ∨ k = s + 3

set_option maxRecDepth 10000 in
set_option maxHeartbeats 2000000 in
theorem iFirst (p : Pf) (a : Option Addr) (n cap : Nat) (bits : Int) (w : World) (zs : List Sp) (hP : PartGives p a n cap bits w zs) :
    Calls Tryz.prog 36 #[.agg #[.bool p.s, .int .i64 p.H.toInt, .int .i64 p.L.toInt, .int .i64 p.b], .slice a n cap, .int .i64 bits] w fun e w' => e = .returned (frsV bits zs) ∧ Below w.heap.size w w' := by
  have HP := hidP hP
  clear hP
  refine (callsIn_wide (n := 9)).1 (callsIn_of_wp_marks Tryz.func36 rfl trivial ?_ rfl)
  simp only [Tryz.ntmps36, List.size_toArray, List.length_cons, List.length_nil, Nat.reduceAdd, Nat.reduceSub, Array.replicate_succ, Array.replicate_zero, List.push_toArray, List.append_toArray, List.nil_append, List.cons_append]
  gi_wp2
  refine ⟨trivial, (callsIn_wide.2 (partsFor_any p a n cap bits _)).mono ?_⟩
  rintro e w7 ⟨rfl, hw7⟩
  obtain ⟨os, hos⟩ : ∃ os : List Obj, os = [.cells #[.bool p.s, .int .i64 p.H.toInt, .int .i64 p.L.toInt, .int .i64 p.b] 31, .cells #[.int .i64 bits] 3, .cells #[.bool false, .int .i64 0, .int .i64 0, .int .i64 0] 31, .cells #[.bool false] 4, .cells #[.bool p.s, .int .i64 p.H.toInt, .int .i64 p.L.toInt, .int .i64 p.b] 31, .cells #[.slice a n cap] 78, .cells #[.int .i64 bits] 3] := ⟨_, rfl⟩
  have hw : w7 = allocs w os := by rw [hos]; exact hw7
  have hz : w7.heap.size = w.heap.size + 7 := by rw [hw, allocs_size, hos]; rfl
  have hb : Below w.heap.size w w7 := by rw [hw]; exact allocs_below os w
  have hat : ∀ i o, os[i]? = some o → w7.heap[w.heap.size + i]? = some o := by rw [hw]; exact allocs_at os w
  subst hos
  have h1 := hat 1 _ rfl
  have h2 := hat 2 _ rfl
  have h3 := hat 3 _ rfl
  have h4 := hat 4 _ rfl
  have h5 := hat 5 _ rfl
  have h6 := hat 6 _ rfl
  have HB := hidP hb
  have H1 := hidP h1
  have H2 := hidP h2
  have H3 := hidP h3
  have HIt := hidP (HP.out w7 (w.heap.size + 6) (w.heap.size + 4) (w.heap.size + 5) hb (of1 h6).1 (of4 h4).1 (of1 h5).1 (by omega) (by omega) (by omega) (by omega))
  clear hw7 hw hat hb h1 h2 h3 h4 h5 h6
  gi_wp2
  refine wp_range (gf := 120) (lb := #[.pointer (some ⟨w.heap.size + 6, 0, none⟩), .pointer (some ⟨w.heap.size + 4, 0, none⟩), .pointer (some ⟨w.heap.size + 5, 0, none⟩)]) rfl (enters_of Tryz.func120 (by kernel_rfl) rfl) HIt.out (fun _ => rfl) (fun k h => by omega)
    (fun pre M V => pre = [] ∧ M = frM w.heap.size ∧ V.heap[w.heap.size + 1]? = some (.cells #[.int .i64 bits] 3) ∧ V.heap[w.heap.size + 2]? = some (.cells #[.bool false, .int .i64 0, .int .i64 0, .int .i64 0] 31) ∧ V.heap[w.heap.size + 3]? = some (.cells #[.bool false] 4))
    (fun c pre M V => c = .ret ∧ M = frM w.heap.size ∧ ∃ z : Sp, pre = [z] ∧ V.heap[w.heap.size + 2]? = some (.cells #[.bool z.s, .int .i64 z.H.toInt, .int .i64 z.L.toInt, .int .i64 bits] 31) ∧ V.heap[w.heap.size + 3]? = some (.cells #[.bool true] 4))
    (fun pre M A B h hk => ?hI) (fun c pre M A B h hk => ?hX) (frM w.heap.size) (fun k h => by unfold frM at h; omega) (fun k h hm => by unfold frM at hm; omega) ⟨rfl, rfl, H1.out, H2.out, H3.out⟩ ?round ?done ?stop
  case hI =>
    obtain ⟨rfl, rfl, h1, h2, h3⟩ := h
    exact ⟨rfl, rfl, hk.at (Or.inl rfl) h1, hk.at (Or.inr (Or.inl rfl)) h2, hk.at (Or.inr (Or.inr rfl)) h3⟩
  case hX =>
    obtain ⟨rfl, rfl, z, rfl, h2, h3⟩ := h
    exact ⟨rfl, rfl, z, rfl, hk.at (Or.inr (Or.inl rfl)) h2, hk.at (Or.inr (Or.inr rfl)) h3⟩
  case stop =>
    rintro D c pre M1 V hD hDl hMD hpre ⟨rfl, rfl, z, rfl, h2, h3⟩ hg hK
    obtain ⟨t, rfl⟩ := hpre
    have k2 := (World.putObj_heap_other (w := V) (o := .deferred none) (show w.heap.size + 2 ≠ D by omega)).trans h2
    have k3 := (World.putObj_heap_other (w := V) (o := .deferred none) (show w.heap.size + 3 ≠ D by omega)).trans h3
    obtain ⟨⟨g0, g1, g2, g3⟩, _⟩ := of4 k2
    have g4 := (of1 k3).1
    have HE := hidP (bel_end HB.out hg (fun k h => by unfold frM at h; omega) hD (.deferred none))
    clear h2 h3 k2 k3 hg
    gi_wp2
    refine ⟨by simp, .inl ⟨_, _, rfl, run_takeDeferred hK, ?_⟩⟩
    exact ⟨.tuple #[.agg #[.bool z.s, .int .i64 z.H.toInt, .int .i64 z.L.toInt, .int .i64 bits], .bool true], by simp [results, Tryz.results36, go_sem, g0, g1, g2, g3, g4], rfl, HE.out⟩
  case done =>
    rintro D M1 V hD hDl hMD ⟨rfl, rfl, h1, h2, h3⟩ hg hK
    have G1 : Grw (frM w.heap.size) (frM w.heap.size) V (((((V.setCell ⟨w.heap.size + 2, 0, none⟩ (.bool false)).setCell ⟨w.heap.size + 2, 1, none⟩ (.int .i64 0)).setCell ⟨w.heap.size + 2, 2, none⟩ (.int .i64 0)).setCell ⟨w.heap.size + 2, 3, none⟩ (.int .i64 0)).setCell ⟨w.heap.size + 3, 0, none⟩ (.bool false)) :=
      ((((Grw.refl hg.fit).set _ _ (Or.inr (Or.inl rfl))).set _ _ (Or.inr (Or.inl rfl))).set _ _ (Or.inr (Or.inl rfl))).set _ _ (Or.inr (Or.inl rfl)) |>.set _ _ (Or.inr (Or.inr rfl))
    have HK := hidP ((G1.kept.block D hDl hMD).trans hK)
    have e2 := setO (k := w.heap.size + 2) (p := ⟨w.heap.size + 3, 0, none⟩) (u := .bool false) (show w.heap.size + 2 ≠ w.heap.size + 3 by omega) (set4 (a' := .bool false) (b' := .int .i64 0) (c' := .int .i64 0) (d' := .int .i64 0) h2)
    have e3 := set1 (u := .bool false) (setO (p := ⟨w.heap.size + 2, 3, none⟩) (u := .int .i64 0) (show w.heap.size + 3 ≠ w.heap.size + 2 by omega) (setO (p := ⟨w.heap.size + 2, 2, none⟩) (u := .int .i64 0) (show w.heap.size + 3 ≠ w.heap.size + 2 by omega) (setO (p := ⟨w.heap.size + 2, 1, none⟩) (u := .int .i64 0) (show w.heap.size + 3 ≠ w.heap.size + 2 by omega) (setO (p := ⟨w.heap.size + 2, 0, none⟩) (u := .bool false) (show w.heap.size + 3 ≠ w.heap.size + 2 by omega) h3))))
    have k2 := fun o => (World.putObj_heap_other (o := o) (show w.heap.size + 2 ≠ D by omega)).trans e2
    have k3 := fun o => (World.putObj_heap_other (o := o) (show w.heap.size + 3 ≠ D by omega)).trans e3
    obtain ⟨⟨g0, g1, g2, g3⟩, _⟩ := of4 (k2 (.deferred none))
    have g4 := (of1 (k3 (.deferred none))).1
    obtain ⟨⟨v0, v1, v2, v3⟩, f0, f1, f2, f3⟩ := of4 h2
    obtain ⟨v4, f4⟩ := of1 h3
    have lz2 := lt_heap h2
    have lz3 := lt_heap h3
    have HE := hidP (bel_end HB.out (hg.trans G1) (fun k h => by unfold frM at h; omega) hD (.deferred none))
    have HG := hidP (And.intro g0 (And.intro g1 (And.intro g2 (And.intro g3 g4))))
    clear h1 h2 h3 k2 k3 hg e2 e3 G1 g0 g1 g2 g3 g4
    gi_wp2
    refine ⟨by simp, .inl ⟨_, _, rfl, run_takeDeferred HK.out, ?_⟩⟩
    obtain ⟨g0, g1, g2, g3, g4⟩ := HG.out
    exact ⟨.tuple #[.agg #[.bool false, .int .i64 0, .int .i64 0, .int .i64 0], .bool false], by simp [results, Tryz.results36, go_sem, g0, g1, g2, g3, g4], rfl, HE.out⟩
  case round =>
    intro l' pre x M1 V _ hf hl' _ hlt hpre
    unfold encP
    refine rnd_of ?_
    intro K' HK'
    have HF0 := hidP hf
    clear hf hl' hpre
    gi_wp2
    refine HK'.out _ _ ⟨(Below.refl _ V).alloc (Nat.le_refl _) _, ?_⟩
    clear HK'
    rintro V2 hk2 hs2 ⟨rfl, rfl, h1, h2, h3⟩
    obtain ⟨x0, x1, x2, x3⟩ := box_cells V 31 x.pre
    have lV : V.heap.size < (V.alloc (.cells #[.bool x.s, .int .i64 x.H.toInt, .int .i64 x.L.toInt, .int .i64 ((wd x.s : Int) - x.n)] 31)).heap.size := by simp
    have nV : V.heap.size ≠ l' := by omega
    have y0 := (hk2.cell (p := ⟨V.heap.size, 0, none⟩) lV nV).trans x0
    have y1 := (hk2.cell (p := ⟨V.heap.size, 1, none⟩) lV nV).trans x1
    have y2 := (hk2.cell (p := ⟨V.heap.size, 2, none⟩) lV nV).trans x2
    have hVs : V.heap.size < V2.heap.size := by rw [hs2]; exact lV
    obtain ⟨⟨v0, v1, v2, v3⟩, f0, f1, f2, f3⟩ := of4 h2
    obtain ⟨v4, f4⟩ := of1 h3
    have v5 := (of1 h1).1
    have lz1 := lt_heap h1
    have lz2 := lt_heap h2
    have lz3 := lt_heap h3
    dsimp only [Sp.pre] at y0 y1 y2
    have fit2 : ∀ k, frM w.heap.size k → k < V2.heap.size := fun k h => by have := HF0.out k h; omega
    have HG : Hid (Grw (frM w.heap.size) (frM w.heap.size) V2 (((((V2.setCell ⟨w.heap.size + 2, 0, none⟩ (.bool x.s)).setCell ⟨w.heap.size + 2, 1, none⟩ (.int .i64 x.H.toInt)).setCell ⟨w.heap.size + 2, 2, none⟩ (.int .i64 x.L.toInt)).setCell ⟨w.heap.size + 2, 3, none⟩ (.int .i64 bits)).setCell ⟨w.heap.size + 3, 0, none⟩ (.bool true))) :=
      hidP (((((Grw.refl fit2).set _ _ (Or.inr (Or.inl rfl))).set _ _ (Or.inr (Or.inl rfl))).set _ _ (Or.inr (Or.inl rfl))).set _ _ (Or.inr (Or.inl rfl)) |>.set _ _ (Or.inr (Or.inr rfl)))
    have E2 := hidP (setO (k := w.heap.size + 2) (p := ⟨w.heap.size + 3, 0, none⟩) (u := .bool true) (show w.heap.size + 2 ≠ w.heap.size + 3 by omega) (set4 (a' := .bool x.s) (b' := .int .i64 x.H.toInt) (c' := .int .i64 x.L.toInt) (d' := .int .i64 bits) h2))
    have E3 := hidP (set1 (u := .bool true) (setO (p := ⟨w.heap.size + 2, 3, none⟩) (u := .int .i64 bits) (show w.heap.size + 3 ≠ w.heap.size + 2 by omega) (setO (p := ⟨w.heap.size + 2, 2, none⟩) (u := .int .i64 x.L.toInt) (show w.heap.size + 3 ≠ w.heap.size + 2 by omega) (setO (p := ⟨w.heap.size + 2, 1, none⟩) (u := .int .i64 x.H.toInt) (show w.heap.size + 3 ≠ w.heap.size + 2 by omega) (setO (p := ⟨w.heap.size + 2, 0, none⟩) (u := .bool x.s) (show w.heap.size + 3 ≠ w.heap.size + 2 by omega) h3)))))
    clear hk2 hs2 h1 h2 h3 x0 x1 x2 x3 lV nV fit2
    gi_wp2
    exact ⟨frM w.heap.size, ⟨rfl, rfl, x, rfl, E2.out, E3.out⟩, HG.out⟩

end Go.Proofs.YtdbcdichmmcnbaaGreat

/-
  The specification's FirstFree: of what is left the first with room, or none.
-/
namespace Go.Proofs.YtdbcdichmmcnbaaGreat
open Go.RowKit

theorem left_sub : ∀ (k : Nat) (x : Sp) (l : List Sp), x.ok → x.n = k → ∀ t ∈ leftM k x l, t.s = x.s ∧ t.n ≤ k
  | 0, x, l, hx, hn, t, ht => by
      unfold leftM at ht
      split at ht
      · cases ht
      · rw [List.mem_singleton] at ht; subst ht; exact ⟨rfl, by omega⟩
  | k + 1, x, l, hx, hn, t, ht => by
      unfold leftM at ht
      split at ht
      · cases ht
      · split at ht
        · rw [List.mem_singleton] at ht; subst ht; exact ⟨rfl, by omega⟩
        · rcases List.mem_append.1 ht with h | h
          · have := left_sub k (lowS x k) _ (low_ok hx hn) rfl t h
            exact ⟨this.1, by omega⟩
          · have := left_sub k (uppS x k) _ (upp_ok hx hn) rfl t h
            exact ⟨this.1, by omega⟩

/-- What partsFor hands out of what is left, where bits are asked as told, and where not. -/
theorem part_yes {x : Sp} {xs : List Sp} {bits : Int} (h : askB x.pre (xs.map Sp.pre) bits = true) : partL x.pre.s bits (leftM x.n x xs) = (leftM x.n x xs).filter (roomP bits) := by
  unfold askB at h
  rw [Bool.and_eq_true, decide_eq_true_eq] at h
  have h2 := h.2.2
  unfold partL
  rw [if_neg (by omega)]
theorem part_not {x : Sp} (hx : x.ok) {xs : List Sp} (hr : rightP (xs.map Sp.pre) = true) {bits : Int} (h : askB x.pre (xs.map Sp.pre) bits = false) : partL x.pre.s bits (leftM x.n x xs) = [] := by
  have hp : x.pre.pok = true := hx.pok
  unfold askB at h
  rw [hp, hr, Bool.true_and, Bool.true_and, decide_eq_false_iff_not] at h
  unfold partL
  split
  · rfl
  · rename_i hw
    rw [List.filter_eq_nil_iff]
    intro t ht hc
    have hs := left_sub x.n x xs hx rfl t ht
    unfold roomP at hc
    rw [decide_eq_true_eq, hs.1] at hc
    have h2 := hs.2
    apply h
    constructor
    · show (wd x.s : Int) - x.n ≤ bits
      omega
    · show bits ≤ (wd x.s : Int)
      have : ¬ (wd x.s : Int) < bits := hw
      omega

theorem room_snoc (bits : Int) (ys : List Sp) (i : Nat) (t : Sp) (h : ys[i]? = some t) (h0 : (ys.take i).filter (roomP bits) = []) (h1 : roomP bits t = false) : (ys.take (i + 1)).filter (roomP bits) = [] := by
  rw [List.take_add_one, h, List.filter_append, h0]
  simp [h1]
theorem frs_at (bits : Int) (ys : List Sp) (i : Nat) (t : Sp) (h : ys[i]? = some t) (h0 : (ys.take i).filter (roomP bits) = []) (h1 : roomP bits t = true) : frsV bits (ys.filter (roomP bits)) = .tuple #[.agg #[.bool t.s, .int .i64 t.H.toInt, .int .i64 t.L.toInt, .int .i64 bits], .bool true] := by
  have e : ys = ys.take i ++ t :: ys.drop (i + 1) := by
    obtain ⟨hi, rfl⟩ := List.getElem?_eq_some_iff.1 h
    rw [← List.drop_eq_getElem_cons hi, List.take_append_drop]
  rw [e, List.filter_append, h0, List.nil_append, List.filter_cons_of_pos h1]
  rfl

set_option maxRecDepth 10000 in
set_option maxHeartbeats 2000000 in
theorem sFirst_no (p : Pf) (a : Option Addr) (cap : Nat) (ps : List Pf) (bits : Int) (w : World) (hB : Row w a ps) (hl : ps.length ≤ 1048576) (hno : askB p ps bits = false) :
    Calls Tryz.prog 45 #[.agg #[.bool p.s, .int .i64 p.H.toInt, .int .i64 p.L.toInt, .int .i64 p.b], .slice a ps.length cap, .int .i64 bits] w fun e w' => e = .returned (frsV bits []) ∧ Below w.heap.size w w' := by
  have HA : Hid (∀ (wx : World) (_ : Row wx a ps), Calls Tryz.prog 95 #[.agg #[.bool p.s, .int .i64 p.H.toInt, .int .i64 p.L.toInt, .int .i64 p.b], .slice a ps.length cap, .int .i64 bits] wx fun e w' => e = .returned (.bool false) ∧ Below wx.heap.size wx w') := hidP fun wx h => by
    have := l4Asked_any p a cap ps bits wx h hl
    rw [hno] at this; exact this
  have HB := hidP hB
  obtain ⟨n, hn⟩ : ∃ n, n = ps.length := ⟨_, rfl⟩
  rw [← hn] at hl HA ⊢
  clear hB hn hno
  go_enter Tryz.func45, Tryz.ntmps45
  go_wp2_with fail
  obtain ⟨os, hos⟩ : ∃ os : List Obj, os = [.cells #[.bool p.s, .int .i64 p.H.toInt, .int .i64 p.L.toInt, .int .i64 p.b] 31, .cells #[.bool false, .int .i64 0, .int .i64 0, .int .i64 0] 31] := ⟨_, rfl⟩
  obtain ⟨W, hW⟩ : ∃ W, W = allocs w os := ⟨_, rfl⟩
  have hWe : (w.alloc (.cells #[.bool p.s, .int .i64 p.H.toInt, .int .i64 p.L.toInt, .int .i64 p.b] 31)).alloc (.cells #[.bool false, .int .i64 0, .int .i64 0, .int .i64 0] 31) = W := by rw [hW, hos]; rfl
  have hb1 : Below w.heap.size w W := by rw [hW]; exact allocs_below os w
  have h1 : W.heap[w.heap.size + 1]? = some (.cells #[.bool false, .int .i64 0, .int .i64 0, .int .i64 0] 31) := by rw [hW]; exact allocs_at os w 1 _ (by rw [hos]; rfl)
  rw [hWe]
  have HB1 := hidP hb1
  clear hW hWe hos hb1
  refine (HA.out W (HB.out.later HB1.out)).mono ?_
  rintro e w2 ⟨rfl, hb2⟩
  have k1 := (hb2.block _ (lt_heap h1)).trans h1
  obtain ⟨⟨v0, v1, v2, v3⟩, f0, f1, f2, f3⟩ := of4 k1
  have lz := lt_heap k1
  obtain ⟨⟨g0, g1, g2, g3⟩, _⟩ := of4 (set4 (a' := .bool false) (b' := .int .i64 0) (c' := .int .i64 0) (d' := .int .i64 0) k1)
  have HG := hidP (And.intro g0 (And.intro g1 (And.intro g2 g3)))
  have HB2 := hidP (HB1.out.trans (hb2.mono HB1.out.size))
  clear h1 k1 hb2 g0 g1 g2 g3
  go_wp2_with fail
  obtain ⟨g0, g1, g2, g3⟩ := HG.out
  refine bodyPost_ret (v := .tuple #[.agg #[.bool false, .int .i64 0, .int .i64 0, .int .i64 0], .bool false]) (by simp [results, Tryz.results45, go_sem, g0, g1, g2, g3]) rfl ⟨rfl, ?_⟩
  exact (((HB2.out.setCell (p := ⟨w.heap.size + 1, 0, none⟩) (Nat.le_succ _) _).setCell (p := ⟨w.heap.size + 1, 1, none⟩) (Nat.le_succ _) _).setCell (p := ⟨w.heap.size + 1, 2, none⟩) (Nat.le_succ _) _).setCell (p := ⟨w.heap.size + 1, 3, none⟩) (Nat.le_succ _) _

set_option maxRecDepth 10000 in
set_option maxHeartbeats 2000000 in
theorem sFirst_yes (x : Sp) (hx : x.ok) (a : Option Addr) (cap : Nat) (xs : List Sp) (hxs : ∀ t ∈ xs, t.ok) (bits : Int) (w : World) (hB : Row w a (xs.map Sp.pre)) (hl : xs.length ≤ 300) (hask : askB x.pre (xs.map Sp.pre) bits = true) :
    Calls Tryz.prog 45 #[.agg #[.bool x.s, .int .i64 x.H.toInt, .int .i64 x.L.toInt, .int .i64 ((wd x.s : Int) - (x.n : Int))], .slice a xs.length cap, .int .i64 bits] w fun e w' => e = .returned (frsV bits ((leftM x.n x xs).filter (roomP bits))) ∧ Below w.heap.size w w' := by
  have HA : Hid (∀ (wx : World) (_ : Row wx a (xs.map Sp.pre)), Calls Tryz.prog 95 #[.agg #[.bool x.s, .int .i64 x.H.toInt, .int .i64 x.L.toInt, .int .i64 ((wd x.s : Int) - (x.n : Int))], .slice a xs.length cap, .int .i64 bits] wx fun e w' => e = .returned (.bool true) ∧ Below wx.heap.size wx w') := hidP fun wx h => by
    have h1 := l4Asked_any x.pre a cap (xs.map Sp.pre) bits wx h (by rw [List.length_map]; omega)
    rw [hask, List.length_map] at h1; exact h1
  have HL : Hid (∀ (wx : World) (_ : Row wx a (xs.map Sp.pre)), _) := hidP fun wx h => l2Left_all x.n x hx rfl xs hxs hl a cap wx h
  have hlen := left_le hx xs hl
  have HB := hidP hB
  obtain ⟨ys, hys⟩ : ∃ ys, ys = leftM x.n x xs := ⟨_, rfl⟩
  rw [← hys] at HL hlen ⊢
  obtain ⟨n, hn⟩ : ∃ n, n = xs.length := ⟨_, rfl⟩
  rw [← hn] at hl HA HL ⊢
  obtain ⟨m, hm⟩ : ∃ m, m = ys.length := ⟨_, rfl⟩
  rw [← hm] at HL hlen
  have HM := hidP hm
  clear hB hn hask hx hxs hys hm
  go_enter Tryz.func45, Tryz.ntmps45
  go_wp2_with fail
  obtain ⟨os, hos⟩ : ∃ os : List Obj, os = [.cells #[.bool x.s, .int .i64 x.H.toInt, .int .i64 x.L.toInt, .int .i64 ((wd x.s : Int) - (x.n : Int))] 31, .cells #[.bool false, .int .i64 0, .int .i64 0, .int .i64 0] 31] := ⟨_, rfl⟩
  obtain ⟨W, hW⟩ : ∃ W, W = allocs w os := ⟨_, rfl⟩
  have hWe : (w.alloc (.cells #[.bool x.s, .int .i64 x.H.toInt, .int .i64 x.L.toInt, .int .i64 ((wd x.s : Int) - (x.n : Int))] 31)).alloc (.cells #[.bool false, .int .i64 0, .int .i64 0, .int .i64 0] 31) = W := by rw [hW, hos]; rfl
  have hb1 : Below w.heap.size w W := by rw [hW]; exact allocs_below os w
  have hsz : W.heap.size = w.heap.size + 2 := by rw [hW, allocs_size, hos]; rfl
  have h0 : W.heap[w.heap.size]? = some (.cells #[.bool x.s, .int .i64 x.H.toInt, .int .i64 x.L.toInt, .int .i64 ((wd x.s : Int) - (x.n : Int))] 31) := by rw [hW]; exact allocs_at os w 0 _ (by rw [hos]; rfl)
  have h1 : W.heap[w.heap.size + 1]? = some (.cells #[.bool false, .int .i64 0, .int .i64 0, .int .i64 0] 31) := by rw [hW]; exact allocs_at os w 1 _ (by rw [hos]; rfl)
  rw [hWe]
  have HB1 := hidP hb1
  clear hW hWe hos hb1
  refine (HA.out W (HB.out.later HB1.out)).mono ?_
  rintro e w2 ⟨rfl, hb2⟩
  have j0 := (hb2.block _ (lt_heap h0)).trans h0
  have j1 := (hb2.block _ (lt_heap h1)).trans h1
  obtain ⟨⟨d0, d1, d2, d3⟩, _⟩ := of4 j0
  have HJ1 := hidP j1
  have lz0 := lt_heap j0
  have HB2 := hidP (HB1.out.trans (hb2.mono HB1.out.size))
  clear h0 h1 j0 j1 hb2
  go_wp2_with fail
  refine (HL.out w2 (HB.out.later HB2.out)).mono ?_
  rintro e w4 ⟨a4, c4, rfl, ho4, hb4⟩
  have k1 := (hb4.block _ (lt_heap HJ1.out)).trans HJ1.out
  obtain ⟨⟨v0, v1, v2, v3⟩, f0, f1, f2, f3⟩ := of4 k1
  have lz := lt_heap k1
  have HS4 : Hid (∀ q : Pf, (((((w4.setCell ⟨w.heap.size + 1, 0, none⟩ (.bool q.s)).setCell ⟨w.heap.size + 1, 1, none⟩ (.int .i64 q.H.toInt)).setCell ⟨w.heap.size + 1, 2, none⟩ (.int .i64 q.L.toInt)).setCell ⟨w.heap.size + 1, 3, none⟩ (.int .i64 q.b)).heap[w.heap.size + 1]? = some (.cells #[.bool q.s, .int .i64 q.H.toInt, .int .i64 q.L.toInt, .int .i64 q.b] 31))) := hidP fun q => set4 k1
  have HZ4 := hidP (of4 (set4 (a' := .bool false) (b' := .int .i64 0) (c' := .int .i64 0) (d' := .int .i64 0) k1)).1
  have HR4 := hidP ho4.row
  have HB4 := hidP (HB2.out.trans (hb4.mono HB2.out.size))
  have HE : Hid (∀ q : Pf, Below w.heap.size w ((((w4.setCell ⟨w.heap.size + 1, 0, none⟩ (.bool q.s)).setCell ⟨w.heap.size + 1, 1, none⟩ (.int .i64 q.H.toInt)).setCell ⟨w.heap.size + 1, 2, none⟩ (.int .i64 q.L.toInt)).setCell ⟨w.heap.size + 1, 3, none⟩ (.int .i64 q.b))) := hidP fun q => (((HB4.out.setCell (p := ⟨w.heap.size + 1, 0, none⟩) (Nat.le_succ _) _).setCell (p := ⟨w.heap.size + 1, 1, none⟩) (Nat.le_succ _) _).setCell (p := ⟨w.heap.size + 1, 2, none⟩) (Nat.le_succ _) _).setCell (p := ⟨w.heap.size + 1, 3, none⟩) (Nat.le_succ _) _
  clear ho4 hb4 k1 d0 d1 d2 d3 lz0 HJ1
  go_wp2_with fail
  go_loopw [9] (fun t9 wr => ∃ i : Nat, i ≤ m ∧ t9 = .int .i64 i ∧ (ys.take i).filter (roomP bits) = [] ∧ w4 = wr) (fun t9 _ => m - (intOf t9).toNat)
  case atStart => exact ⟨0, Nat.zero_le _, rfl, by simp, rfl⟩
  case round =>
    obtain ⟨i, hi, rfl, hfl, rfl⟩ := hrel
    have HF := hidP hfl
    clear hfl
    by_cases hlt : i < m
    · obtain ⟨q, o, t, rfl, hq, ht, e0, e1, e2, e3⟩ := HR4.out.pre i (by rw [← HM.out]; exact hlt)
      have HT := hidP ht
      clear ht
      cases hr : decide ((wd t.s : Int) - t.n ≤ bits)
      · have HN := hidP (room_snoc bits ys i t HT.out HF.out hr)
        go_wp2_with fail
        go_roundw
        case rel => exact ⟨i + 1, by omega, by go_num, HN.out, by first | rfl | trivial⟩
        case measure => simp [intOf]; omega
      · have HN := hidP (frs_at bits ys i t HT.out HF.out hr)
        go_wp2_with fail
        obtain ⟨⟨g0, g1, g2, g3⟩, _⟩ := of4 (HS4.out ⟨t.s, t.H, t.L, bits⟩)
        refine bodyPost_ret (v := .tuple #[.agg #[.bool t.s, .int .i64 t.H.toInt, .int .i64 t.L.toInt, .int .i64 bits], .bool true]) (by simp [results, Tryz.results45, go_sem, g0, g1, g2, g3]) rfl ⟨by rw [HN.out], HE.out ⟨t.s, t.H, t.L, bits⟩⟩
    · have hin : i = m := by omega
      subst hin
      have hfe : ys.filter (roomP bits) = [] := by have := HF.out; rw [HM.out, List.take_length] at this; exact this
      have HN := hidP hfe
      clear hfe
      go_wp2_with fail
      obtain ⟨g0, g1, g2, g3⟩ := HZ4.out
      refine bodyPost_ret (v := .tuple #[.agg #[.bool false, .int .i64 0, .int .i64 0, .int .i64 0], .bool false]) (by simp [results, Tryz.results45, go_sem, g0, g1, g2, g3]) rfl ⟨by rw [HN.out]; rfl, ?_⟩
      exact (((HB4.out.setCell (p := ⟨w.heap.size + 1, 0, none⟩) (Nat.le_succ _) _).setCell (p := ⟨w.heap.size + 1, 1, none⟩) (Nat.le_succ _) _).setCell (p := ⟨w.heap.size + 1, 2, none⟩) (Nat.le_succ _) _).setCell (p := ⟨w.heap.size + 1, 3, none⟩) (Nat.le_succ _) _

end Go.Proofs.YtdbcdichmmcnbaaGreat
