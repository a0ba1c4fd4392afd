/-
  What stateOk_holds needs, part 4.
-/
import Derived.Test.YtplocbpngikohaaGreatZS3
import Derived.Carry
import Derived.Deep.Slices
import Derived.ChangeMaps5
import Derived.Lib.SmallJoins
import Derived.Lib.SlicesCompact
import Derived.Deep.RegionWith
import Derived.Deep.RegionHeld3
namespace Go.Proofs.YtplocbpngikohaaGreat
open Go.RowKit

/-- The first block that has an address. -/
def bkF (s : Bool) (H L : BitVec 64) : List Bk → Bk × Bool
  | [] => (Bk.zero, false)
  | q :: t => if hadB q.p.s q.p.H q.p.L q.p.b s H L = true then (q, true) else bkF s H L t
def bkR (r : Bool) (s : Bool) (H L : BitVec 64) (bs : List Bk) : Bk × Bool := if r = true then bkF s H L bs else (Bk.zero, false)
theorem bkF_at (s : Bool) (H L : BitVec 64) (bs : List Bk) (k : Nat) (q : Bk) (h : bs[k]? = some q) : bkF s H L (bs.drop k) = if hadB q.p.s q.p.H q.p.L q.p.b s H L = true then (q, true) else bkF s H L (bs.drop (k + 1)) := by
  rw [drop_at h]; rfl
theorem box3A {s : Bool} {H L : BitVec 64} (w : World) (t : TypeId) : (w.alloc (.cells #[.bool s, .int .i64 H.toInt, .int .i64 L.toInt] t)).cell? ⟨w.heap.size, 0, none⟩ = some (.bool s) ∧ (w.alloc (.cells #[.bool s, .int .i64 H.toInt, .int .i64 L.toInt] t)).cell? ⟨w.heap.size, 1, none⟩ = some (.int .i64 H.toInt) ∧ (w.alloc (.cells #[.bool s, .int .i64 H.toInt, .int .i64 L.toInt] t)).cell? ⟨w.heap.size, 2, none⟩ = some (.int .i64 L.toInt) := ⟨by simp [go_sem], by simp [go_sem], by simp [go_sem]⟩
theorem boxZ (w : World) (t : TypeId) : (w.alloc (.cells #[.bool false, .int .i64 0, .int .i64 0, .int .i64 0, .string ⟨#[]⟩] t)).cell? ⟨w.heap.size, 0, none⟩ = some (.bool false) ∧ (w.alloc (.cells #[.bool false, .int .i64 0, .int .i64 0, .int .i64 0, .string ⟨#[]⟩] t)).cell? ⟨w.heap.size, 1, none⟩ = some (.int .i64 0) ∧ (w.alloc (.cells #[.bool false, .int .i64 0, .int .i64 0, .int .i64 0, .string ⟨#[]⟩] t)).cell? ⟨w.heap.size, 2, none⟩ = some (.int .i64 0) ∧ (w.alloc (.cells #[.bool false, .int .i64 0, .int .i64 0, .int .i64 0, .string ⟨#[]⟩] t)).cell? ⟨w.heap.size, 3, none⟩ = some (.int .i64 0) ∧ (w.alloc (.cells #[.bool false, .int .i64 0, .int .i64 0, .int .i64 0, .string ⟨#[]⟩] t)).cell? ⟨w.heap.size, 4, none⟩ = some (.string ⟨#[]⟩) := ⟨by simp [go_sem], by simp [go_sem], by simp [go_sem], by simp [go_sem], by simp [go_sem]⟩
theorem frzZ (w : World) (t : TypeId) (o : Nat) : (w.alloc (.cells #[.bool false, .int .i64 0, .int .i64 0, .int .i64 0, .string ⟨#[]⟩] t)).frozen? ⟨w.heap.size, o, none⟩ = false := OwnG.frozen (own_oneG KBk w 0 t Bk.zero (Nat.zero_le _)) o
theorem ret_bk {a b : Bk × Bool} (h : a = b) : Ending.returned (.tuple #[.agg #[.bool a.1.p.s, .int .i64 a.1.p.H.toInt, .int .i64 a.1.p.L.toInt, .int .i64 a.1.p.b, .string a.1.t], .bool a.2]) = Ending.returned (.tuple #[.agg #[.bool b.1.p.s, .int .i64 b.1.p.H.toInt, .int .i64 b.1.p.L.toInt, .int .i64 b.1.p.b, .string b.1.t], .bool b.2]) := by rw [h]

set_option maxRecDepth 10000 in
set_option maxHeartbeats 4000000 in
theorem sBlockOf_any (s : Bool) (H L : BitVec 64) (ap : Option Addr) (np cp : Nat) (ab : Option Addr) (nb cb : Nat) (ps : List Pl) (bs : List Bk) (w : World) (hnp : np = ps.length) (hnb : nb = bs.length) (hP : RowG KPl w ap ps) (hK : RowG KBk w ab bs) (hlp : np ≤ 9000000000) (hl : nb ≤ 9000000000) (hst : ∀ q ∈ bs, q.t.size ≤ 9223372036854775807) :
    Calls Tryz.prog 19 #[.agg #[.slice ap np cp, .slice ab nb cb], .agg #[.bool s, .int .i64 H.toInt, .int .i64 L.toInt]] w fun e w' => e = .returned (.tuple #[.agg #[.bool (bkR (planB ps bs) s H L bs).1.p.s, .int .i64 (bkR (planB ps bs) s H L bs).1.p.H.toInt, .int .i64 (bkR (planB ps bs) s H L bs).1.p.L.toInt, .int .i64 (bkR (planB ps bs) s H L bs).1.p.b, .string (bkR (planB ps bs) s H L bs).1.t], .bool (bkR (planB ps bs) s H L bs).2]) ∧ Below w.heap.size w w' := by
  have HPO := hidP (fun W h => sPlanOk_any ap np cp ab nb cb ps bs W hnp hnb (hP.later h) (hK.later h) hlp hl hst)
  have HBP := hidP hP
  have HBK := hidP hK
  have HN := hidP hnb
  clear hP hK hnp hnb hst
  generalize planB ps bs = r at *
  go_enter Tryz.func19, Tryz.ntmps19
  go_wp2_with fail
  obtain ⟨u0, u1⟩ := box2 (u := .slice ap np cp) (v := .slice ab nb cb) w 39
  have uB := alloc_below w (.cells #[.slice ap np cp, .slice ab nb cb] 39)
  have uL := alloc_lt w (.cells #[.slice ap np cp, .slice ab nb cb] 39)
  have uS : (w.alloc (.cells #[.slice ap np cp, .slice ab nb cb] 39)).heap.size = w.heap.size + 1 := by simp
  generalize w.alloc (.cells #[.slice ap np cp, .slice ab nb cb] 39) = W1 at *
  obtain ⟨a0, a1, a2⟩ := box3A (s := s) (H := H) (L := L) W1 55
  have aB := alloc_below W1 (.cells #[.bool s, .int .i64 H.toInt, .int .i64 L.toInt] 55)
  have aL := alloc_lt W1 (.cells #[.bool s, .int .i64 H.toInt, .int .i64 L.toInt] 55)
  have aS : (W1.alloc (.cells #[.bool s, .int .i64 H.toInt, .int .i64 L.toInt] 55)).heap.size = W1.heap.size + 1 := by simp
  generalize W1.alloc (.cells #[.bool s, .int .i64 H.toInt, .int .i64 L.toInt] 55) = W2 at *
  rw [uS] at a0 a1 a2 aL aS
  have kF := frzZ W2 67
  obtain ⟨k0, k1, k2, k3, k4⟩ := boxZ W2 67
  have kB := alloc_below W2 (.cells #[.bool false, .int .i64 0, .int .i64 0, .int .i64 0, .string ⟨#[]⟩] 67)
  have kL := alloc_lt W2 (.cells #[.bool false, .int .i64 0, .int .i64 0, .int .i64 0, .string ⟨#[]⟩] 67)
  have kS : (W2.alloc (.cells #[.bool false, .int .i64 0, .int .i64 0, .int .i64 0, .string ⟨#[]⟩] 67)).heap.size = W2.heap.size + 1 := by simp
  generalize W2.alloc (.cells #[.bool false, .int .i64 0, .int .i64 0, .int .i64 0, .string ⟨#[]⟩] 67) = W3 at *
  rw [aS] at k0 k1 k2 k3 k4 kL kS
  rw [aS] at kF
  have U0 := (kB.cell (show w.heap.size < W2.heap.size by omega)).trans ((aB.cell uL).trans u0)
  have U1 := (kB.cell (show w.heap.size < W2.heap.size by omega)).trans ((aB.cell uL).trans u1)
  have A0 := (kB.cell (show w.heap.size + 1 < W2.heap.size by omega)).trans a0
  have A1 := (kB.cell (show w.heap.size + 1 < W2.heap.size by omega)).trans a1
  have A2 := (kB.cell (show w.heap.size + 1 < W2.heap.size by omega)).trans a2
  have B3 := hidP ((uB.trans (aB.mono uB.size)).trans (kB.mono (Nat.le_trans uB.size aB.size)))
  have hs3 : W3.heap.size = w.heap.size + 3 := by omega
  have HP3 := hidP (HBP.out.later B3.out)
  have HK3 := hidP (HBK.out.later B3.out)
  clear u0 u1 uB uL uS a0 a1 a2 aB aL aS kB kS
  go_loopw [6] (fun t6 wr => ∃ k : Nat, k ≤ nb ∧ t6 = .int .i64 k ∧ bkR r s H L bs = bkR r s H L (bs.drop k) ∧ Below W3.heap.size W3 wr) (fun t6 _ => nb - (intOf t6).toNat)
  case atStart => exact ⟨0, Nat.zero_le _, rfl, rfl, Below.refl _ _⟩
  case round =>
    obtain ⟨k, hk, rfl, hix, hbel⟩ := hrel
    have U0r := (hbel.cell (show w.heap.size < W3.heap.size by omega)).trans U0
    have U1r := (hbel.cell (show w.heap.size < W3.heap.size by omega)).trans U1
    have A0r := (hbel.cell (show w.heap.size + 1 < W3.heap.size by omega)).trans A0
    have A1r := (hbel.cell (show w.heap.size + 1 < W3.heap.size by omega)).trans A1
    have A2r := (hbel.cell (show w.heap.size + 1 < W3.heap.size by omega)).trans A2
    have k0r := (hbel.cell (show w.heap.size + 1 + 1 < W3.heap.size by omega)).trans k0
    have k1r := (hbel.cell (show w.heap.size + 1 + 1 < W3.heap.size by omega)).trans k1
    have k2r := (hbel.cell (show w.heap.size + 1 + 1 < W3.heap.size by omega)).trans k2
    have k3r := (hbel.cell (show w.heap.size + 1 + 1 < W3.heap.size by omega)).trans k3
    have k4r := (hbel.cell (show w.heap.size + 1 + 1 < W3.heap.size by omega)).trans k4
    have kFr : ∀ o, wr.frozen? ⟨w.heap.size + 1 + 1, o, none⟩ = false := fun o => (hbel.frozen (show w.heap.size + 1 + 1 < W3.heap.size by omega)).trans (kF o)
    have hzr : w.heap.size + 3 ≤ wr.heap.size := by have := hbel.size; omega
    have BR := hidP (B3.out.trans (hbel.mono B3.out.size))
    have HBel := hidP hbel
    clear U0 U1 A0 A1 A2 k0 k1 k2 k3 k4 kF
    by_cases hlt : k < nb
    · have gk : decide ((k : Int) < (nb : Int)) = true := decide_eq_true (by omega)
      go_wp2_with fail
      refine (HPO.out _ BR.out).mono ?_
      rintro e w4 ⟨rfl, hb4⟩
      have U0a := (hb4.cell (show w.heap.size < wr.heap.size by omega)).trans U0r
      have U1a := (hb4.cell (show w.heap.size < wr.heap.size by omega)).trans U1r
      have A0a := (hb4.cell (show w.heap.size + 1 < wr.heap.size by omega)).trans A0r
      have A1a := (hb4.cell (show w.heap.size + 1 < wr.heap.size by omega)).trans A1r
      have A2a := (hb4.cell (show w.heap.size + 1 < wr.heap.size by omega)).trans A2r
      have k0a := (hb4.cell (show w.heap.size + 1 + 1 < wr.heap.size by omega)).trans k0r
      have k1a := (hb4.cell (show w.heap.size + 1 + 1 < wr.heap.size by omega)).trans k1r
      have k2a := (hb4.cell (show w.heap.size + 1 + 1 < wr.heap.size by omega)).trans k2r
      have k3a := (hb4.cell (show w.heap.size + 1 + 1 < wr.heap.size by omega)).trans k3r
      have k4a := (hb4.cell (show w.heap.size + 1 + 1 < wr.heap.size by omega)).trans k4r
      have kFa : ∀ o, w4.frozen? ⟨w.heap.size + 1 + 1, o, none⟩ = false := fun o => (hb4.frozen (show w.heap.size + 1 + 1 < wr.heap.size by omega)).trans (kFr o)
      clear U0r U1r A0r A1r A2r k0r k1r k2r k3r k4r kFr
      have hz4 : w.heap.size + 3 ≤ w4.heap.size := by have := hb4.size; omega
      have B4 := hidP (BR.out.trans (hb4.mono BR.out.size))
      have X4 := hidP (HBel.out.trans (hb4.mono HBel.out.size))
      clear hb4
      cases r
      · have HF : Hid (bkR false s H L bs = (Bk.zero, false)) := hidP rfl
        clear hix hbel
        go_wp2_with fail
        refine bodyPost_ret (v := .tuple #[.agg #[.bool false, .int .i64 0, .int .i64 0, .int .i64 0, .string ⟨#[]⟩], .bool false]) (by simp [results, Tryz.results19, go_sem, k0a, k1a, k2a, k3a, k4a]) rfl ⟨ret_bk (a := (Bk.zero, false)) HF.out.symm, ?_⟩
        repeat (with_reducible refine Below.setCell ?_ ?_ _; rotate_left; (focus (first | omega | (simp; omega))))
        exact B4.out
      · obtain ⟨p, o, q, rfl, hp, hq, c0, c1, c2, c3, c4⟩ := rowBk HK3.out k (by rw [← HN.out]; exact hlt)
        have d0 := (X4.out.cell hp).trans c0
        have d1 := (X4.out.cell hp).trans c1
        have d2 := (X4.out.cell hp).trans c2
        have d3 := (X4.out.cell hp).trans c3
        have d4 := (X4.out.cell hp).trans c4
        have dL : p < w4.heap.size := Nat.lt_of_lt_of_le hp X4.out.size
        have hix' : bkR true s H L bs = bkF s H L (bs.drop k) := hix
        rw [bkF_at s H L bs k q hq] at hix'
        have HX := hidP hix'
        have HH := hidP (sHasAddr_any q.p.s q.p.H q.p.L q.p.b s H L)
        have uL : w.heap.size < w4.heap.size := by omega
        have aL : w.heap.size + 1 < w4.heap.size := by omega
        clear c0 c1 c2 c3 c4 hq hix hix' hbel
        cases hh : hadB q.p.s q.p.H q.p.L q.p.b s H L
        · rw [hh] at HX HH
          go_wp2_with fail
          have HSx : Hid (∀ x, Below w4.heap.size w4 x → (x.cell? ⟨p, o + k * 5, none⟩ = some (.bool q.p.s) ∧ x.cell? ⟨p, o + k * 5 + 1, none⟩ = some (.int .i64 q.p.H.toInt) ∧ x.cell? ⟨p, o + k * 5 + 2, none⟩ = some (.int .i64 q.p.L.toInt) ∧ x.cell? ⟨p, o + k * 5 + 3, none⟩ = some (.int .i64 q.p.b) ∧ x.cell? ⟨p, o + k * 5 + 4, none⟩ = some (.string q.t) ∧ x.cell? ⟨w.heap.size, 1, none⟩ = some (.slice (some ⟨p, o, none⟩) nb cb) ∧ x.cell? ⟨w.heap.size + 1, 0, none⟩ = some (.bool s) ∧ x.cell? ⟨w.heap.size + 1, 1, none⟩ = some (.int .i64 H.toInt) ∧ x.cell? ⟨w.heap.size + 1, 2, none⟩ = some (.int .i64 L.toInt) ∧ Below w4.heap.size w4 x)) := hidP fun x h =>
            ⟨(h.cell dL).trans d0, (h.cell dL).trans d1, (h.cell dL).trans d2, (h.cell dL).trans d3, (h.cell dL).trans d4, (h.cell uL).trans U1a, (h.cell aL).trans A0a, (h.cell aL).trans A1a, (h.cell aL).trans A2a, h⟩
          refine wp_region_held_drew (S := (fun x => x.cell? ⟨p, o + k * 5, none⟩ = some (.bool q.p.s) ∧ x.cell? ⟨p, o + k * 5 + 1, none⟩ = some (.int .i64 q.p.H.toInt) ∧ x.cell? ⟨p, o + k * 5 + 2, none⟩ = some (.int .i64 q.p.L.toInt) ∧ x.cell? ⟨p, o + k * 5 + 3, none⟩ = some (.int .i64 q.p.b) ∧ x.cell? ⟨p, o + k * 5 + 4, none⟩ = some (.string q.t) ∧ x.cell? ⟨w.heap.size, 1, none⟩ = some (.slice (some ⟨p, o, none⟩) nb cb) ∧ x.cell? ⟨w.heap.size + 1, 0, none⟩ = some (.bool s) ∧ x.cell? ⟨w.heap.size + 1, 1, none⟩ = some (.int .i64 H.toInt) ∧ x.cell? ⟨w.heap.size + 1, 2, none⟩ = some (.int .i64 L.toInt) ∧ Below w4.heap.size w4 x)) (by kernel_rfl) ?_ (fun hHeld => ?_)
          · try dsimp only
            exact HSx.out _ (Below.refl _ _).drew
          refine tkA 0 18 (v := ?_) rfl (by kernel_rfl) (fun _ _ _ h => h) (by rfl) ?_ (by assumption) ?_; rotate_left; · (intro w hSw; (try dsimp only at hSw); go_simp; try with_reducible rfl)
          simp only [pa]
          refine tkA 1 19 (v := ?_) rfl (by kernel_rfl) (fun _ _ _ h => h) (by rfl) ?_ (by assumption) ?_; rotate_left; · (intro w hSw; (try dsimp only at hSw); go_simp; try with_reducible rfl)
          simp only [pa]
          refine tkA 2 20 (v := ?_) rfl (by kernel_rfl) (fun _ _ _ h => h) (by rfl) ?_ (by assumption) ?_; rotate_left; · (intro w hSw; (try dsimp only at hSw); go_simp; try with_reducible rfl)
          simp only [pa]
          refine tkA 3 21 (v := ?_) rfl (by kernel_rfl) (fun _ _ _ h => h) (by rfl) ?_ (by assumption) ?_; rotate_left; · (intro w hSw; (try dsimp only at hSw); go_simp; try with_reducible rfl)
          simp only [pa]
          refine tkA 4 22 (v := ?_) rfl (by kernel_rfl) (fun _ _ _ h => h) (by rfl) ?_ (by assumption) ?_; rotate_left; · (intro w hSw; (try dsimp only at hSw); go_simp; try with_reducible rfl)
          simp only [pa]
          refine tkA 5 23 (v := ?_) rfl (by kernel_rfl) (fun _ _ _ h => h) (by rfl) ?_ (by assumption) ?_; rotate_left; · (intro w hSw; (try dsimp only at hSw); go_simp; try with_reducible rfl)
          simp only [pa]
          refine tkA 6 24 (v := ?_) rfl (by kernel_rfl) (fun _ _ _ h => h) (by rfl) ?_ (by assumption) ?_; rotate_left; · (intro w hSw; (try dsimp only at hSw); go_simp; try with_reducible rfl)
          simp only [pa]
          refine wpAnyH_ready (rs := [7]) (by kernel_rfl) (by simp) ?_
          refine AllReadyH.cons rfl (fun K hK => ?_) AllReadyH.nil
          go_simp
          go_wp2_with (first | (go_at_call 44; refine (HH.out _).mono ?_; rintro e w6 ⟨rfl, hb6⟩; have b6 := (hHeld.2.2.2.2.2.2.2.2.2).trans (hb6.mono (hHeld.2.2.2.2.2.2.2.2.2).size)))
          refine hK.out _ _ ?_ (fun hHeld => ?_)
          · try dsimp only
            exact HSx.out _ b6
          clear hK K
          have HE := hidP (hHeld.2.2.2.2.2.2.2.2.2)
          refine wpAnyH_done (by kernel_rfl) ?_ _
          clear hHeld
          go_wp2_with fail
          go_roundw
          case rel => exact ⟨k + 1, by omega, by go_num, by rw [HX.out]; simp [bkR], X4.out.trans (HE.out.mono X4.out.size)⟩
          case measure => simp [intOf]; omega
        · rw [hh] at HX HH
          have HF : Hid (bkR true s H L bs = (q, true)) := hidP (by rw [HX.out]; simp)
          go_wp2_with fail
          have HSx : Hid (∀ x, Below w4.heap.size w4 x → (x.cell? ⟨p, o + k * 5, none⟩ = some (.bool q.p.s) ∧ x.cell? ⟨p, o + k * 5 + 1, none⟩ = some (.int .i64 q.p.H.toInt) ∧ x.cell? ⟨p, o + k * 5 + 2, none⟩ = some (.int .i64 q.p.L.toInt) ∧ x.cell? ⟨p, o + k * 5 + 3, none⟩ = some (.int .i64 q.p.b) ∧ x.cell? ⟨p, o + k * 5 + 4, none⟩ = some (.string q.t) ∧ x.cell? ⟨w.heap.size, 1, none⟩ = some (.slice (some ⟨p, o, none⟩) nb cb) ∧ x.cell? ⟨w.heap.size + 1, 0, none⟩ = some (.bool s) ∧ x.cell? ⟨w.heap.size + 1, 1, none⟩ = some (.int .i64 H.toInt) ∧ x.cell? ⟨w.heap.size + 1, 2, none⟩ = some (.int .i64 L.toInt) ∧ Below w4.heap.size w4 x)) := hidP fun x h =>
            ⟨(h.cell dL).trans d0, (h.cell dL).trans d1, (h.cell dL).trans d2, (h.cell dL).trans d3, (h.cell dL).trans d4, (h.cell uL).trans U1a, (h.cell aL).trans A0a, (h.cell aL).trans A1a, (h.cell aL).trans A2a, h⟩
          refine wp_region_held_drew (S := (fun x => x.cell? ⟨p, o + k * 5, none⟩ = some (.bool q.p.s) ∧ x.cell? ⟨p, o + k * 5 + 1, none⟩ = some (.int .i64 q.p.H.toInt) ∧ x.cell? ⟨p, o + k * 5 + 2, none⟩ = some (.int .i64 q.p.L.toInt) ∧ x.cell? ⟨p, o + k * 5 + 3, none⟩ = some (.int .i64 q.p.b) ∧ x.cell? ⟨p, o + k * 5 + 4, none⟩ = some (.string q.t) ∧ x.cell? ⟨w.heap.size, 1, none⟩ = some (.slice (some ⟨p, o, none⟩) nb cb) ∧ x.cell? ⟨w.heap.size + 1, 0, none⟩ = some (.bool s) ∧ x.cell? ⟨w.heap.size + 1, 1, none⟩ = some (.int .i64 H.toInt) ∧ x.cell? ⟨w.heap.size + 1, 2, none⟩ = some (.int .i64 L.toInt) ∧ Below w4.heap.size w4 x)) (by kernel_rfl) ?_ (fun hHeld => ?_)
          · try dsimp only
            exact HSx.out _ (Below.refl _ _).drew
          refine tkA 0 18 (v := ?_) rfl (by kernel_rfl) (fun _ _ _ h => h) (by rfl) ?_ (by assumption) ?_; rotate_left; · (intro w hSw; (try dsimp only at hSw); go_simp; try with_reducible rfl)
          simp only [pa]
          refine tkA 1 19 (v := ?_) rfl (by kernel_rfl) (fun _ _ _ h => h) (by rfl) ?_ (by assumption) ?_; rotate_left; · (intro w hSw; (try dsimp only at hSw); go_simp; try with_reducible rfl)
          simp only [pa]
          refine tkA 2 20 (v := ?_) rfl (by kernel_rfl) (fun _ _ _ h => h) (by rfl) ?_ (by assumption) ?_; rotate_left; · (intro w hSw; (try dsimp only at hSw); go_simp; try with_reducible rfl)
          simp only [pa]
          refine tkA 3 21 (v := ?_) rfl (by kernel_rfl) (fun _ _ _ h => h) (by rfl) ?_ (by assumption) ?_; rotate_left; · (intro w hSw; (try dsimp only at hSw); go_simp; try with_reducible rfl)
          simp only [pa]
          refine tkA 4 22 (v := ?_) rfl (by kernel_rfl) (fun _ _ _ h => h) (by rfl) ?_ (by assumption) ?_; rotate_left; · (intro w hSw; (try dsimp only at hSw); go_simp; try with_reducible rfl)
          simp only [pa]
          refine tkA 5 23 (v := ?_) rfl (by kernel_rfl) (fun _ _ _ h => h) (by rfl) ?_ (by assumption) ?_; rotate_left; · (intro w hSw; (try dsimp only at hSw); go_simp; try with_reducible rfl)
          simp only [pa]
          refine tkA 6 24 (v := ?_) rfl (by kernel_rfl) (fun _ _ _ h => h) (by rfl) ?_ (by assumption) ?_; rotate_left; · (intro w hSw; (try dsimp only at hSw); go_simp; try with_reducible rfl)
          simp only [pa]
          refine wpAnyH_ready (rs := [7]) (by kernel_rfl) (by simp) ?_
          refine AllReadyH.cons rfl (fun K hK => ?_) AllReadyH.nil
          go_simp
          go_wp2_with (first | (go_at_call 44; refine (HH.out _).mono ?_; rintro e w6 ⟨rfl, hb6⟩; have b6 := (hHeld.2.2.2.2.2.2.2.2.2).trans (hb6.mono (hHeld.2.2.2.2.2.2.2.2.2).size)))
          refine hK.out _ _ ?_ (fun hHeld => ?_)
          · try dsimp only
            exact HSx.out _ b6
          clear hK K
          have HE := hidP (hHeld.2.2.2.2.2.2.2.2.2)
          refine wpAnyH_done (by kernel_rfl) ?_ _
          clear hHeld
          have hb6 := HE.out
          have hz6 : w.heap.size + 3 ≤ w6.heap.size := by have := hb6.size; omega
          have U0t := (hb6.cell (show w.heap.size < w4.heap.size by omega)).trans U0a
          have U1t := (hb6.cell (show w.heap.size < w4.heap.size by omega)).trans U1a
          have A0t := (hb6.cell (show w.heap.size + 1 < w4.heap.size by omega)).trans A0a
          have A1t := (hb6.cell (show w.heap.size + 1 < w4.heap.size by omega)).trans A1a
          have A2t := (hb6.cell (show w.heap.size + 1 < w4.heap.size by omega)).trans A2a
          have k0t := (hb6.cell (show w.heap.size + 1 + 1 < w4.heap.size by omega)).trans k0a
          have k1t := (hb6.cell (show w.heap.size + 1 + 1 < w4.heap.size by omega)).trans k1a
          have k2t := (hb6.cell (show w.heap.size + 1 + 1 < w4.heap.size by omega)).trans k2a
          have k3t := (hb6.cell (show w.heap.size + 1 + 1 < w4.heap.size by omega)).trans k3a
          have k4t := (hb6.cell (show w.heap.size + 1 + 1 < w4.heap.size by omega)).trans k4a
          have kFt : ∀ o, w6.frozen? ⟨w.heap.size + 1 + 1, o, none⟩ = false := fun o => (hb6.frozen (show w.heap.size + 1 + 1 < w4.heap.size by omega)).trans (kFa o)
          clear U0a U1a A0a A1a A2a k0a k1a k2a k3a k4a kFa
          have e0 := (hb6.cell dL).trans d0
          have e1 := (hb6.cell dL).trans d1
          have e2 := (hb6.cell dL).trans d2
          have e3 := (hb6.cell dL).trans d3
          have e4 := (hb6.cell dL).trans d4
          have B6 := hidP (B4.out.trans (hb6.mono B4.out.size))
          clear hb6 d0 d1 d2 d3 d4
          go_wp2_with fail
          refine bodyPost_ret (v := .tuple #[.agg #[.bool q.p.s, .int .i64 q.p.H.toInt, .int .i64 q.p.L.toInt, .int .i64 q.p.b, .string q.t], .bool true]) (by simp [results, Tryz.results19, go_sem, k0t, k1t, k2t, k3t, k4t]) rfl ⟨ret_bk (a := (q, true)) HF.out.symm, ?_⟩
          repeat (with_reducible refine Below.setCell ?_ ?_ _; rotate_left; (focus (first | omega | (simp; omega))))
          exact B6.out
    · have gk : decide ((k : Int) < (nb : Int)) = false := decide_eq_false (by omega)
      have HF : Hid (bkR r s H L bs = (Bk.zero, false)) := by
        rw [List.drop_of_length_le (by have := HN.out; omega)] at hix
        refine hidP (hix.trans ?_)
        unfold bkR; split <;> rfl
      clear hbel hix
      go_wp2_with fail
      refine bodyPost_ret (v := .tuple #[.agg #[.bool false, .int .i64 0, .int .i64 0, .int .i64 0, .string ⟨#[]⟩], .bool false]) (by simp [results, Tryz.results19, go_sem, k0r, k1r, k2r, k3r, k4r]) rfl ⟨ret_bk (a := (Bk.zero, false)) HF.out.symm, ?_⟩
      repeat (with_reducible refine Below.setCell ?_ ?_ _; rotate_left; (focus (first | omega | (simp; omega))))
      exact BR.out

end Go.Proofs.YtplocbpngikohaaGreat
namespace Go.Proofs.YtplocbpngikohaaGreat
open Go.ChangeShapes Go.WideShapes Go.ChangeAt Go.RowKit Go.Joins Go.Deep

structure Ad where
  s : Bool
  H : BitVec 64
  L : BitVec 64
def Ad.key (a : Ad) : Nat := keyN a.s a.H a.L
def Ad.ok (a : Ad) : Bool := okB a.s a.H.toInt a.L.toInt
structure Ls where
  a : Ad
  t : ByteArray
  k : Int
  u : Int
def Ls.cs (q : Ls) : List Value := [.bool q.a.s, .int .i64 q.a.H.toInt, .int .i64 q.a.L.toInt, .string q.t, .int .i64 q.k, .int .i64 q.u]
def Ls.zero : Ls := ⟨⟨false, 0, 0⟩, ⟨#[]⟩, 0, 0⟩
def KLs : Kd Ls := ⟨6, Ls.cs, fun _ => rfl, fun x u h => by
  simp [Ls.cs] at h
  rcases h with rfl | rfl | rfl | rfl | rfl | rfl <;> rfl⟩
theorem Tryz.tyLs : GTy KLs (.agg #[.bool false, .int .i64 0, .int .i64 0, .string ⟨#[]⟩, .int .i64 0, .int .i64 0]) 56 Tryz.prog 40 71 := ⟨Tryz.underlying40, by kernel_rfl, rfl, by omega⟩

theorem rowLs {w : World} {a : Option Addr} {ps : List Ls} (h : RowG KLs w a ps) (j : Nat) (hj : j < ps.length) : ∃ p o q, a = some ⟨p, o, none⟩ ∧ p < w.heap.size ∧ ps[j]? = some q ∧
    w.cell? ⟨p, o + j * 6, none⟩ = some (.bool q.a.s) ∧ w.cell? ⟨p, o + j * 6 + 1, none⟩ = some (.int .i64 q.a.H.toInt) ∧ w.cell? ⟨p, o + j * 6 + 2, none⟩ = some (.int .i64 q.a.L.toInt) ∧ w.cell? ⟨p, o + j * 6 + 3, none⟩ = some (.string q.t) ∧ w.cell? ⟨p, o + j * 6 + 4, none⟩ = some (.int .i64 q.k) ∧ w.cell? ⟨p, o + j * 6 + 5, none⟩ = some (.int .i64 q.u) := by
  obtain ⟨p, o, q, ha, hp, hq, c⟩ := h j hj
  exact ⟨p, o, q, ha, hp, hq, c 0 _ rfl, c 1 _ rfl, c 2 _ rfl, c 3 _ rfl, c 4 _ rfl, c 5 _ rfl⟩
theorem rowLs0 {w : World} {g n cap B : Nat} {t : TypeId} {ps : List Ls} (h : OwnG KLs t w B (.slice (some ⟨g, 0, none⟩) n cap) ps) (j : Nat) (hj : j < ps.length) : ∃ q, g < w.heap.size ∧ ps[j]? = some q ∧
    w.cell? ⟨g, j * 6, none⟩ = some (.bool q.a.s) ∧ w.cell? ⟨g, j * 6 + 1, none⟩ = some (.int .i64 q.a.H.toInt) ∧ w.cell? ⟨g, j * 6 + 2, none⟩ = some (.int .i64 q.a.L.toInt) ∧ w.cell? ⟨g, j * 6 + 3, none⟩ = some (.string q.t) ∧ w.cell? ⟨g, j * 6 + 4, none⟩ = some (.int .i64 q.k) ∧ w.cell? ⟨g, j * 6 + 5, none⟩ = some (.int .i64 q.u) := by
  obtain ⟨p, o, q, ha, hp, hq, c0, c1, c2, c3, c4, c5⟩ := rowLs h.row j hj
  simp only [Option.some.injEq, Addr.mk.injEq, and_true] at ha
  obtain ⟨rfl, rfl⟩ := ha
  rw [Nat.zero_add] at c0 c1 c2 c3 c4 c5
  exact ⟨q, hp, hq, c0, c1, c2, c3, c4, c5⟩
theorem putLs {t : TypeId} {w : World} {B g n cap : Nat} {ps : List Ls} (h : OwnG KLs t w B (.slice (some ⟨g, 0, none⟩) n cap) ps) (hn : n = ps.length) (j : Nat) (hj : j < n) (q : Ls) :
    OwnG KLs t ((((((w.setCell ⟨g, j * 6, none⟩ (.bool q.a.s)).setCell ⟨g, j * 6 + 1, none⟩ (.int .i64 q.a.H.toInt)).setCell ⟨g, j * 6 + 2, none⟩ (.int .i64 q.a.L.toInt)).setCell ⟨g, j * 6 + 3, none⟩ (.string q.t)).setCell ⟨g, j * 6 + 4, none⟩ (.int .i64 q.k)).setCell ⟨g, j * 6 + 5, none⟩ (.int .i64 q.u)) B (.slice (some ⟨g, 0, none⟩) n cap) (ps.set j q) := h.put hn j hj q
theorem frzLs {t : TypeId} {w : World} {B g n cap : Nat} {ps : List Ls} (h : OwnG KLs t w B (.slice (some ⟨g, 0, none⟩) n cap) ps) (j : Nat) :
    w.frozen? ⟨g, j * 6, none⟩ = false ∧ w.frozen? ⟨g, j * 6 + 1, none⟩ = false ∧ w.frozen? ⟨g, j * 6 + 2, none⟩ = false ∧ w.frozen? ⟨g, j * 6 + 3, none⟩ = false ∧ w.frozen? ⟨g, j * 6 + 4, none⟩ = false ∧ w.frozen? ⟨g, j * 6 + 5, none⟩ = false := ⟨h.frozen _, h.frozen _, h.frozen _, h.frozen _, h.frozen _, h.frozen _⟩

set_option maxHeartbeats 1000000 in
theorem toLease_any (q : Ls) (w : World) :
    Calls Tryz.prog 69 #[.agg #[.bool q.a.s, .int .i64 q.a.H.toInt, .int .i64 q.a.L.toInt, .string q.t, .int .i64 q.k, .int .i64 q.u]] w fun e w' => e = .returned (.agg #[.bool q.a.s, .int .i64 q.a.H.toInt, .int .i64 q.a.L.toInt, .string q.t, .int .i64 q.k, .int .i64 q.u]) ∧ Below w.heap.size w w' := by
  go_enter Tryz.func69, Tryz.ntmps69
  go_wp2_with fail
  refine (toAddr_any q.a.s q.a.H.toInt q.a.L.toInt _).mono ?_
  rintro e w1 ⟨rfl, hb1⟩
  have hz1 := hb1.size
  try simp at hz1
  have f10 : w.heap.size < w1.heap.size := by omega
  have f11 : w.heap.size + 1 < w1.heap.size := by omega
  have f12 : w.heap.size + 2 < w1.heap.size := by omega
  refine olds_k (w.heap.size + 3) hb1 ?_ ?_
  · first | omega | (simp; omega) | (simp; done)
  intro hc1 hf1
  go_wp2_with fail
  refine bodyPost_ret (v := .agg #[.bool q.a.s, .int .i64 q.a.H.toInt, .int .i64 q.a.L.toInt, .string q.t, .int .i64 q.k, .int .i64 q.u]) (by simp [results, Tryz.results69, go_sem, hc1]) rfl ⟨rfl, ?_⟩
  repeat (first | with_reducible exact Below.refl _ _ | (with_reducible refine Below.drew ?_) | (with_reducible refine Below.alloc ?_ ?_ _; rotate_left; (focus (first | omega | (simp; omega) | (simp; done)))) | (with_reducible refine Below.setCell ?_ ?_ _; rotate_left; (focus (first | omega | (simp; omega) | (simp; done)))) | (with_reducible refine Below.trans ?_ (hb1.mono ?_); rotate_left; (focus (first | omega | (simp; omega) | (simp; done)))))

set_option maxHeartbeats 1000000 in
theorem eqLease_same (q : Ls) (w : World) :
    Calls Tryz.prog 85 #[.agg #[.bool q.a.s, .int .i64 q.a.H.toInt, .int .i64 q.a.L.toInt, .string q.t, .int .i64 q.k, .int .i64 q.u], .agg #[.bool q.a.s, .int .i64 q.a.H.toInt, .int .i64 q.a.L.toInt, .string q.t, .int .i64 q.k, .int .i64 q.u]] w fun e w' => e = .returned (.bool true) ∧ Below w.heap.size w w' := by
  go_enter Tryz.func85, Tryz.ntmps85
  go_wp2_with fail
  refine (eqA_same q.a.s q.a.H.toInt q.a.L.toInt _).mono ?_
  rintro e w1 ⟨rfl, hb1⟩
  have hz1 := hb1.size
  try simp at hz1
  have f10 : w.heap.size < w1.heap.size := by omega
  have f11 : w.heap.size + 1 < w1.heap.size := by omega
  refine olds_k (w.heap.size + 2) hb1 ?_ ?_
  · first | omega | (simp; omega) | (simp; done)
  intro hc1 hf1
  go_wp2_with fail
  go_ret
  refine ⟨rfl, ?_⟩
  repeat (first | with_reducible exact Below.refl _ _ | (with_reducible refine Below.drew ?_) | (with_reducible refine Below.alloc ?_ ?_ _; rotate_left; (focus (first | omega | (simp; omega) | (simp; done)))) | (with_reducible refine Below.setCell ?_ ?_ _; rotate_left; (focus (first | omega | (simp; omega) | (simp; done)))) | (with_reducible refine Below.trans ?_ (hb1.mono ?_); rotate_left; (focus (first | omega | (simp; omega) | (simp; done)))))

set_option maxHeartbeats 1000000 in
theorem toLeaseS_any (a : Option Addr) (n cap : Nat) (ps : List Ls) (w : World) (hn : n = ps.length) (hB : RowG KLs w a ps) (hl : n ≤ 1048576) :
    Calls Tryz.prog 47 #[.slice a n cap] w fun e w' => ∃ g, e = .returned (.slice (some ⟨g, 0, none⟩) n n) ∧ OwnG KLs 71 w' w.heap.size (.slice (some ⟨g, 0, none⟩) n n) ps ∧ Below w.heap.size w w' := by
  obtain ⟨i0, hi, hz0, hz1, hz2⟩ := info_parts Tryz.tyLs.2.1
  have HB := hidP hB
  have HN := hidP hn
  clear hB hn
  go_enter Tryz.func47, Tryz.ntmps47
  go_wp2_with (refine wpList_make_full _ rfl (.tmp 6) (.tmp 6) 40 rfl w.heap.size 71 i0 _ 6 Tryz.tyLs.1 hi hz0 hz1 .i64 .i64 n n n rfl rfl rfl rfl (by rw [hz2]; omega) (by unfold maxLen; omega) (Nat.le_refl _) ?_; intro w1 hown hgrow)
  have HO : Hid (OwnG KLs 71 w1 w.heap.size (.slice (some ⟨w.heap.size, 0, none⟩) n n) (ps.take 0 ++ List.replicate (ps.length - 0) Ls.zero)) := by
    have hm := made_gen KLs Ls.zero (by show 0 < 6; omega) (.agg #[.bool false, .int .i64 0, .int .i64 0, .string ⟨#[]⟩, .int .i64 0, .int .i64 0]) rfl n
    rw [show n * 6 = n * KLs.k from rfl, hm] at hown
    refine hidP ?_
    unfold OwnG
    rw [Nat.sub_zero, List.take_zero, List.nil_append, List.length_replicate, ← HN.out]; exact hown
  have HW : Hid (Below w.heap.size w w1) := (Below.refl _ w).grown hgrow (Nat.le_refl _) (fun k hk => by cases hk)
  clear hown hgrow
  go_loopw [4] (fun t4 wr => ∃ k : Nat, k ≤ n ∧ t4 = .int .i64 k ∧ OwnG KLs 71 wr w.heap.size (.slice (some ⟨w.heap.size, 0, none⟩) n n) (ps.take k ++ List.replicate (ps.length - k) Ls.zero) ∧ Below w.heap.size w wr) (fun t4 _ => n - (intOf t4).toNat)
  case atStart => exact ⟨0, Nat.zero_le _, rfl, HO.out, HW.out⟩
  case round =>
    obtain ⟨k, hk, rfl, hown, hbel⟩ := hrel
    by_cases hlt : k < n
    · obtain ⟨p, o, q, rfl, hp, hq, c0, c1, c2, c3, c4, c5⟩ := rowLs HB.out k (by rw [← HN.out]; exact hlt)
      have d0 := (hbel.cell hp).trans c0
      have d1 := (hbel.cell hp).trans c1
      have d2 := (hbel.cell hp).trans c2
      have d3 := (hbel.cell hp).trans c3
      have d4 := (hbel.cell hp).trans c4
      have d5 := (hbel.cell hp).trans c5
      have HOw := hidP hown
      have HBel := hidP hbel
      have HQ := hidP hq
      clear hown hbel c0 c1 c2 c3 c4 c5 hq HO HW
      go_wp2_with fail
      refine (toLease_any q _).mono ?_
      rintro e w2 ⟨rfl, hb2⟩
      have ho2 := HOw.out.later hb2
      have hlen : n = (ps.take k ++ List.replicate (ps.length - k) Ls.zero).length := by rw [List.length_append, List.length_take, List.length_replicate, HN.out]; have := HN.out; omega
      obtain ⟨f0, f1, f2, f3, f4, f5⟩ := frzLs ho2 k
      have hput' := putLs ho2 hlen k hlt q
      rw [copy_stepG Ls.zero ps k q (by rw [← HN.out]; exact hlt) HQ.out] at hput'
      have HP := hidP hput'
      obtain ⟨q', hp', _, e0, e1, e2, e3, e4, e5⟩ := rowLs0 ho2 k (by rw [← hlen]; exact hlt)
      have HBel2 := hidP (HBel.out.trans (hb2.mono HBel.out.size))
      clear hput' ho2 hb2 HBel HOw d0 d1 d2 d3 d4 d5 hlen
      go_wp2_with fail
      go_roundw
      case rel => exact ⟨k + 1, by omega, by go_num, HP.out, (((((HBel2.out.setCell (Nat.le_refl _) _).setCell (Nat.le_refl _) _).setCell (Nat.le_refl _) _).setCell (Nat.le_refl _) _).setCell (Nat.le_refl _) _).setCell (Nat.le_refl _) _⟩
      case measure => simp [intOf]; omega
    · have hkn : k = n := by omega
      subst hkn
      have HO2 : Hid (OwnG KLs 71 wr w.heap.size (.slice (some ⟨w.heap.size, 0, none⟩) k k) ps) := by
        have e := HN.out
        rw [e, List.take_length, Nat.sub_self, List.replicate_zero, List.append_nil] at hown
        rw [← e] at hown
        exact hidP hown
      have HBel : Hid (Below w.heap.size w wr) := hbel
      clear hown hbel HO HW
      go_wp2
      go_ret
      exact ⟨_, rfl, HO2.out, HBel.out⟩

set_option maxHeartbeats 1000000 in
theorem eqLeaseS_same (a b : Option Addr) (n c d : Nat) (ps : List Ls) (w : World) (hn : n = ps.length) (ha : RowG KLs w a ps) (hb : RowG KLs w b ps) (hl : n ≤ 9000000000) :
    Calls Tryz.prog 57 #[.slice a n c, .slice b n d] w fun e w' => e = .returned (.bool true) ∧ Below w.heap.size w w' := by
  have HA := hidP ha
  have HB := hidP hb
  have HN := hidP hn
  clear ha hb hn
  go_enter Tryz.func57, Tryz.ntmps57
  go_wp2
  go_loopw [5] (fun t5 wr => ∃ k : Nat, k ≤ n ∧ t5 = .int .i64 k ∧ Below w.heap.size w wr) (fun t5 _ => n - (intOf t5).toNat)
  case atStart => exact ⟨0, Nat.zero_le _, rfl, Below.refl _ _⟩
  case round =>
    obtain ⟨k, hk, rfl, hbel⟩ := hrel
    have HW := hidP hbel
    by_cases hlt : k < n
    · obtain ⟨p, o, q, rfl, hp, hq, c0, c1, c2, c3, c4, c5⟩ := rowLs HA.out k (by rw [← HN.out]; exact hlt)
      obtain ⟨p', o', q', rfl, hp', hq', d0, d1, d2, d3, d4, d5⟩ := rowLs HB.out k (by rw [← HN.out]; exact hlt)
      rw [hq] at hq'
      cases hq'
      have c0' := (hbel.cell hp).trans c0
      have c1' := (hbel.cell hp).trans c1
      have c2' := (hbel.cell hp).trans c2
      have c3' := (hbel.cell hp).trans c3
      have c4' := (hbel.cell hp).trans c4
      have c5' := (hbel.cell hp).trans c5
      have d0' := (hbel.cell hp').trans d0
      have d1' := (hbel.cell hp').trans d1
      have d2' := (hbel.cell hp').trans d2
      have d3' := (hbel.cell hp').trans d3
      have d4' := (hbel.cell hp').trans d4
      have d5' := (hbel.cell hp').trans d5
      clear c0 c1 c2 c3 c4 c5 d0 d1 d2 d3 d4 d5 hq hbel
      go_wp2_with fail
      go_region_with (first | (go_at_call 85; refine (eqLease_same q _).mono ?_; rintro e w2 ⟨rfl, hb2⟩))
      all_goals
        have HW2 := hidP (HW.out.drew.trans (hb2.mono HW.out.drew.size))
        clear hb2
        go_wp2
        go_roundw
        case rel => exact ⟨k + 1, by omega, by go_num, HW2.out⟩
        case measure => simp [intOf]; omega
    · have hkn : k = n := by omega
      subst hkn
      clear hbel
      go_wp2
      go_ret
      exact ⟨rfl, HW.out⟩

theorem Tryz.cellsLs : Tryz.prog.cellsOf 117 = 6 := by kernel_rfl
theorem wfA {x : Int} (h : (Lit.int .i64 x).wf = true) : (BitVec.ofInt 64 x).toInt = x := by
  have h2 : -9223372036854775808 ≤ x ∧ x ≤ 9223372036854775807 := wf_bdC h
  rw [BitVec.toInt_ofInt]
  exact Int.bmod_eq_of_le (by omega) (by omega)
theorem adOf {H : Type} {enc : TypeId × Value → H} {W : World} {fuel : Nat} {c0 c1 c2 : Value} {x : DataW H × List MemPlace}
    (h : DataW.trod enc Tryz.prog W 0 (fun _ => true) true fuel 52 [c0, c1, c2] = some x) : ∃ a : Ad, c0 = .bool a.s ∧ c1 = .int .i64 a.H.toInt ∧ c2 = .int .i64 a.L.toInt := by
  obtain ⟨z0, z1, z2, n, hx, _, h0, h1, h2⟩ := trod_struct3 Tryz.underlying52 h
  have kb : Tryz.prog.cellsOf 4 = 1 := by kernel_rfl
  have ki : Tryz.prog.cellsOf 3 = 1 := by kernel_rfl
  simp [kb, ki] at h0 h1 h2
  obtain ⟨b, e0, _⟩ := DataW.trod_bool Tryz.underlying4 h0
  obtain ⟨y, e1, _, wy⟩ := DataW.trod_int Tryz.underlying3 h1
  obtain ⟨y2, e2, _, wy2⟩ := DataW.trod_int Tryz.underlying3 h2
  simp at e0 e1 e2
  subst e0 e1 e2
  exact ⟨⟨b, BitVec.ofInt 64 y, BitVec.ofInt 64 y2⟩, rfl, by rw [wfA wy], by rw [wfA wy2]⟩
/-- One out of its cells. -/
theorem ofLs {H : Type} {enc : TypeId × Value → H} {W : World} {fuel : Nat} {cs : List Value} {x : DataW H × List MemPlace} (hl : cs.length = 6)
    (h : DataW.trod enc Tryz.prog W 0 (fun _ => true) true fuel 117 cs = some x) : ∃ q : Ls, cs = q.cs ∧ q.t.size ≤ 9223372036854775807 := by
  match cs, hl with
  | [c0, c1, c2, c3, c4, c5], _ =>
    obtain ⟨z0, z1, z2, z3, n, hx, _, h0, h1, h2, h3⟩ := trod_struct4 Tryz.underlying117 h
    have k0 : Tryz.prog.cellsOf 52 = 3 := by kernel_rfl
    have ks : Tryz.prog.cellsOf 9 = 1 := by kernel_rfl
    have ki : Tryz.prog.cellsOf 3 = 1 := by kernel_rfl
    simp [k0, ks, ki] at h0 h1 h2 h3
    obtain ⟨a, rfl, rfl, rfl⟩ := adOf h0
    obtain ⟨y, e1, _, wy⟩ := DataW.trod_string Tryz.underlying9 h1
    obtain ⟨k, e2, _, wk⟩ := DataW.trod_int Tryz.underlying3 h2
    obtain ⟨u, e3, _, wu⟩ := DataW.trod_int Tryz.underlying3 h3
    simp at e1 e2 e3
    subst e1 e2 e3
    exact ⟨⟨a, y, k, u⟩, rfl, by unfold maxLen at wy; show y.size ≤ _; omega⟩


set_option maxRecDepth 100000 in
/-- The things out of the reading of a row of them. -/
theorem openLs {H : Type} {enc : TypeId × Value → H} {W : World} {a : Option Addr} {len cap : Nat} {d : DataW H} {p : List MemPlace}
    (h : DataW.Trod enc Tryz.prog W 0 (fun _ => true) true 26 (.slice a len cap) d p) : ∃ ps : List Ls, ps.length = len ∧ len ≤ 9223372036854775807 ∧ RowG KLs W a ps ∧ ∀ q ∈ ps, q.t.size ≤ 9223372036854775807 := by
  obtain ⟨fuel, hf⟩ := h
  rcases open_slice Tryz.underlying26 hf with ⟨hcs, _⟩ | ⟨a', len', cap', m, n, D, Plc, hcs, _, hl, hmx, hm, _, hV⟩
  · simp [Value.cells] at hcs
    obtain ⟨rfl, rfl, rfl⟩ := hcs
    exact ⟨[], rfl, by omega, RowG.nil _ _ _, fun _ h => by cases h⟩
  · simp [Value.cells] at hcs
    obtain ⟨rfl, rfl, rfl⟩ := hcs
    suffices h9 : ∃ ps : List Ls, ps.length = len ∧ RowG KLs W (some a') ps ∧ ∀ q ∈ ps, q.t.size ≤ 9223372036854775807 by
      obtain ⟨ps, h1, h2⟩ := h9
      exact ⟨ps, h1, by unfold maxLen at hmx; omega, h2⟩
    refine rowsG_of2 (E := fun q : Ls => q.t.size ≤ 9223372036854775807) _ _ fun j hj => ?_
    simp at hm
    obtain ⟨cs', h1, h2⟩ := hV j (by omega)
    rw [Tryz.cellsLs] at h1
    obtain ⟨_, hlen, hcell⟩ := World.cells?_some h1
    obtain ⟨q, rfl, hq9⟩ := ofLs hlen h2
    obtain ⟨p', o', sp⟩ := a'
    cases sp with
    | some r =>
      exfalso
      obtain ⟨cs0, g1, g2⟩ := hV 0 (by omega)
      rw [Tryz.cellsLs] at g1
      obtain ⟨_, glen, gcell⟩ := World.cells?_some g1
      obtain ⟨q0, rfl, _⟩ := ofLs glen g2
      have h0 := gcell 0 (by omega)
      rw [Nat.zero_mul, show Addr.add (Addr.add ⟨p', o', some r⟩ 0) 0 = ⟨p', o', some r⟩ from rfl] at h0
      unfold World.cell? at h0
      split at h0
      · simp [Ls.cs] at h0
      · cases h0
    | none =>
      have ea : ∀ i k : Nat, Addr.add (Addr.add ⟨p', o', none⟩ i) k = ⟨p', o' + i + k, none⟩ := fun i k => by
        have ea1 : ∀ (o k : Nat), Addr.add ⟨p', o, none⟩ k = ⟨p', o + k, none⟩ := fun o k => by unfold Addr.add; split <;> simp_all
        rw [ea1, ea1]
      have hall : ∀ i v, (KLs.cs q)[i]? = some v → W.cell? ⟨p', o' + j * KLs.k + i, none⟩ = some v := fun i v hv => by
        have hi : i < 6 := by
          rcases Nat.lt_or_ge i (KLs.cs q).length with h1 | h1
          · exact h1
          · rw [List.getElem?_eq_none h1] at hv; cases hv
        have e0 := hcell i hi
        rw [ea] at e0
        exact e0.trans hv
      exact ⟨p', o', q, rfl, World.block_lt_of_cell? W _ (hall 0 _ rfl), hall, hq9⟩

end Go.Proofs.YtplocbpngikohaaGreat
namespace Go.Proofs.YtplocbpngikohaaGreat
open Go.RowKit

def okLs (T N : Int) (x : Ls) : Bool := (x.a.ok && ownB x.t) && ((decide (1 ≤ x.k) && decide (x.k ≤ T)) && (decide (N < x.u) && decide (x.u ≤ 1000000000)))
def ascA (r : Option Ad) (a : Ad) : Bool := match r with | none => true | some b => decide (b.key < a.key)
/-- As the program asks it. -/
def leasesF (T N : Int) : Option Ad → List Ls → Bool
  | _, [] => true
  | r, x :: t => (okLs T N x && ascA r x.a) && leasesF T N (some x.a) t
def tokB (ls : List Ls) : Bool := decide ((ls.map (·.k)).Nodup)
def hasTok (k : Int) (ls : List Ls) : Bool := ls.any fun y => y.k == k
/-- As the specification asks it. -/
def leasesS (T N : Int) : List Ls → List Ls → Bool
  | _, [] => true
  | pre, x :: t => (okLs T N x && ascA (pre.getLast?.map (·.a)) x.a) && (!hasTok x.k pre && leasesS T N (pre ++ [x]) t)
def bkB (ls : List Ls) (T N : Int) : Bool := (decide (ls.length ≤ 80) && ((decide (0 ≤ T) && decide (T ≤ 1000000000)) && (decide (0 ≤ N) && decide (N ≤ 1000000000)))) && (leasesF T N none ls && tokB ls)

theorem hasTok_not {k : Int} {ls : List Ls} : hasTok k ls = false ↔ k ∉ ls.map (·.k) := by
  unfold hasTok
  rw [List.any_eq_false]
  constructor
  · intro h hm
    obtain ⟨y, hy, e⟩ := List.mem_map.1 hm
    exact h y hy (by simp [e])
  · intro h y hy hc
    exact h (List.mem_map.2 ⟨y, hy, by simpa using hc⟩)
theorem leases_tail (T N : Int) : ∀ (t pre : List Ls), (pre.map (·.k)).Nodup → leasesS T N pre t = (leasesF T N (pre.getLast?.map (·.a)) t && tokB (pre ++ t))
  | [], pre, hp => by
      unfold leasesS leasesF tokB
      rw [List.append_nil, decide_eq_true hp]; rfl
  | x :: t, pre, hp => by
      unfold leasesS leasesF
      cases hx : (okLs T N x && ascA (pre.getLast?.map (·.a)) x.a)
      · rfl
      · cases ht : hasTok x.k pre
        · have hn := hasTok_not.1 ht
          have hp' : ((pre ++ [x]).map (·.k)).Nodup := by
            rw [List.map_append, List.nodup_append]
            refine ⟨hp, by simp, fun a ha b hb => ?_⟩
            simp at hb
            subst hb
            intro e
            exact hn (e ▸ ha)
          rw [leases_tail T N t (pre ++ [x]) hp', List.getLast?_append, List.append_assoc]
          simp
        · have hd : tokB (pre ++ x :: t) = false := by
            unfold tokB
            apply decide_eq_false
            intro h
            rw [List.map_append, List.nodup_append] at h
            have hm : x.k ∈ pre.map (·.k) := Classical.byContradiction fun hc => by rw [hasTok_not.2 hc] at ht; cases ht
            exact h.2.2 _ hm _ (by simp) rfl
          rw [hd]; simp
theorem leases_same (T N : Int) (ls : List Ls) : leasesS T N [] ls = (leasesF T N none ls && tokB ls) := leases_tail T N ls [] (by simp)

/-- What stands ahead of place k. -/
def prvL (ps : List Ls) : Nat → Option Ad
  | 0 => none
  | j + 1 => (ps[j]?).map (·.a)
theorem prvL_next {ps : List Ls} {k : Nat} {q : Ls} (h : ps[k]? = some q) : prvL ps (k + 1) = some q.a := by show (ps[k]?).map _ = _; rw [h]; rfl
theorem prvL_last (ps : List Ls) : ∀ k, k ≤ ps.length → ((ps.take k).getLast?.map (·.a)) = prvL ps k
  | 0, _ => by simp [prvL]
  | k + 1, h => by
      have e : ps[k]? = some ps[k] := List.getElem?_eq_getElem (by omega)
      rw [List.take_add_one, prvL_next e, e, Option.toList_some, List.getLast?_append, List.getLast?_singleton, Option.some_or]
      rfl
theorem take_at {α : Type} {ps : List α} {k : Nat} {q : α} (h : ps[k]? = some q) : ps.take k ++ [q] = ps.take (k + 1) := by
  rw [List.take_add_one, h]; rfl
theorem okLs_ok {T N : Int} {x : Ls} (h : okLs T N x = true) : x.a.ok = true := by
  unfold okLs at h
  simp only [Bool.and_eq_true] at h
  exact h.1.1

theorem compact_nodup (zs : List Int) : ((Lib.compact (zs.mergeSort fun x y => decide (x ≤ y))).length = zs.length) ↔ zs.Nodup := by
  have hp : (zs.mergeSort fun x y => decide (x ≤ y)).Perm zs := List.mergeSort_perm zs _
  have hs : (zs.mergeSort fun x y => decide (x ≤ y)).Pairwise (fun x y => decide (x ≤ y) = true) := List.pairwise_mergeSort (fun a b c h1 h2 => by simp at *; omega) (fun a b => by simp; omega) zs
  rw [← hp.nodup_iff, ← hp.length_eq]
  generalize zs.mergeSort (fun x y => decide (x ≤ y)) = S at hs
  have hlen : (Lib.compact S).length = ((List.range S.length).filter (Lib.keeps S.toArray)).length := by
    unfold Lib.compact Lib.compactUpTo
    rw [List.length_map]
  have hkp : ∀ j, j + 1 < S.length → (Lib.keeps S.toArray (j + 1) = true ↔ S[j]? ≠ S[j + 1]?) := by
    intro j hj
    have e1 : S[j]? = some S[j] := List.getElem?_eq_getElem (by omega)
    have e2 : S[j + 1]? = some S[j + 1] := List.getElem?_eq_getElem hj
    rw [e1, e2]
    have g1 : S.toArray[j]! = S[j] := by rw [getElem!_pos _ _ (by simp; omega)]; simp
    have g2 : S.toArray[j + 1]! = S[j + 1] := by rw [getElem!_pos _ _ (by simp; omega)]; simp
    unfold Lib.keeps
    rw [Nat.add_sub_cancel, g1, g2, decide_eq_true_eq]
    constructor
    · rintro (h | h)
      · omega
      · intro e; exact h (Option.some.inj e).symm
    · intro h
      exact Or.inr fun e => h (by rw [e])
  constructor
  · intro h
    rw [hlen] at h
    have hall : ∀ j, j < S.length → Lib.keeps S.toArray j = true := by
      intro j hj
      have h2 : ((List.range S.length).filter (Lib.keeps S.toArray)).length = (List.range S.length).length := by rw [h, List.length_range]
      exact (List.length_filter_eq_length_iff.1 h2) j (List.mem_range.2 hj)
    rw [List.nodup_iff_pairwise_ne, List.pairwise_iff_getElem]
    intro i j hi hj hij
    have hs' := List.pairwise_iff_getElem.1 hs
    obtain ⟨J, rfl⟩ : ∃ J, j = J + 1 := ⟨j - 1, by omega⟩
    have n1 := (hkp J hj).1 (hall _ hj)
    rw [List.getElem?_eq_getElem (by omega : J < S.length), List.getElem?_eq_getElem hj] at n1
    have n2 : S[J] ≠ S[J + 1] := fun e => n1 (by rw [e])
    have l1 := hs' J (J + 1) (by omega) hj (by omega)
    simp at l1
    by_cases h3 : i = J
    · subst h3; exact n2
    · have l2 := hs' i J hi (by omega) (by omega)
      simp at l2
      omega
  · intro h
    rw [Lib.compact_all S]
    intro j hj
    cases j with
    | zero => simp [Lib.keeps]
    | succ J =>
      rw [hkp J hj, List.getElem?_eq_getElem (by omega : J < S.length), List.getElem?_eq_getElem hj]
      have := (List.pairwise_iff_getElem.1 (List.nodup_iff_pairwise_ne.1 h)) J (J + 1) (by omega) hj (by omega)
      simpa using this
theorem tok_compact (ls : List Ls) (n : Nat) (hn : n = ls.length) : (((Lib.compact ((ls.map (·.k)).mergeSort fun x y => decide (x ≤ y))).length : Int) == (n : Int)) = tokB ls := by
  have h := compact_nodup (ls.map (·.k))
  rw [List.length_map, ← hn] at h
  unfold tokB
  by_cases hd : (ls.map (·.k)).Nodup
  · rw [decide_eq_true hd, h.2 hd]; simp
  · rw [decide_eq_false hd, beq_eq_false_iff_ne]
    intro e
    exact hd (h.1 (by omega))

end Go.Proofs.YtplocbpngikohaaGreat
namespace Go.Proofs.YtplocbpngikohaaGreat
open Go.ChangeShapes Go.WideShapes Go.ChangeAt Go.RowKit Go.Joins Go.Deep

structure Ss where
  i : Int
  l : Int
  t : ByteArray
  u : Int
def Ss.cs (q : Ss) : List Value := [.int .i64 q.i, .int .i64 q.l, .string q.t, .int .i64 q.u]
def Ss.zero : Ss := ⟨0, 0, ⟨#[]⟩, 0⟩
def KSs : Kd Ss := ⟨4, Ss.cs, fun _ => rfl, fun x u h => by
  simp [Ss.cs] at h
  rcases h with rfl | rfl | rfl | rfl <;> rfl⟩
theorem Tryz.tySs : GTy KSs (.agg #[.int .i64 0, .int .i64 0, .string ⟨#[]⟩, .int .i64 0]) 40 Tryz.prog 43 96 := ⟨Tryz.underlying43, by kernel_rfl, rfl, by omega⟩

theorem rowSs {w : World} {a : Option Addr} {ps : List Ss} (h : RowG KSs w a ps) (j : Nat) (hj : j < ps.length) : ∃ p o q, a = some ⟨p, o, none⟩ ∧ p < w.heap.size ∧ ps[j]? = some q ∧
    w.cell? ⟨p, o + j * 4, none⟩ = some (.int .i64 q.i) ∧ w.cell? ⟨p, o + j * 4 + 1, none⟩ = some (.int .i64 q.l) ∧ w.cell? ⟨p, o + j * 4 + 2, none⟩ = some (.string q.t) ∧ w.cell? ⟨p, o + j * 4 + 3, none⟩ = some (.int .i64 q.u) := by
  obtain ⟨p, o, q, ha, hp, hq, c⟩ := h j hj
  exact ⟨p, o, q, ha, hp, hq, c 0 _ rfl, c 1 _ rfl, c 2 _ rfl, c 3 _ rfl⟩
theorem rowSs0 {w : World} {g n cap B : Nat} {t : TypeId} {ps : List Ss} (h : OwnG KSs t w B (.slice (some ⟨g, 0, none⟩) n cap) ps) (j : Nat) (hj : j < ps.length) : ∃ q, g < w.heap.size ∧ ps[j]? = some q ∧
    w.cell? ⟨g, j * 4, none⟩ = some (.int .i64 q.i) ∧ w.cell? ⟨g, j * 4 + 1, none⟩ = some (.int .i64 q.l) ∧ w.cell? ⟨g, j * 4 + 2, none⟩ = some (.string q.t) ∧ w.cell? ⟨g, j * 4 + 3, none⟩ = some (.int .i64 q.u) := by
  obtain ⟨p, o, q, ha, hp, hq, c0, c1, c2, c3⟩ := rowSs h.row j hj
  simp only [Option.some.injEq, Addr.mk.injEq, and_true] at ha
  obtain ⟨rfl, rfl⟩ := ha
  rw [Nat.zero_add] at c0 c1 c2 c3
  exact ⟨q, hp, hq, c0, c1, c2, c3⟩
theorem putSs {t : TypeId} {w : World} {B g n cap : Nat} {ps : List Ss} (h : OwnG KSs t w B (.slice (some ⟨g, 0, none⟩) n cap) ps) (hn : n = ps.length) (j : Nat) (hj : j < n) (q : Ss) :
    OwnG KSs t ((((w.setCell ⟨g, j * 4, none⟩ (.int .i64 q.i)).setCell ⟨g, j * 4 + 1, none⟩ (.int .i64 q.l)).setCell ⟨g, j * 4 + 2, none⟩ (.string q.t)).setCell ⟨g, j * 4 + 3, none⟩ (.int .i64 q.u)) B (.slice (some ⟨g, 0, none⟩) n cap) (ps.set j q) := h.put hn j hj q
theorem frzSs {t : TypeId} {w : World} {B g n cap : Nat} {ps : List Ss} (h : OwnG KSs t w B (.slice (some ⟨g, 0, none⟩) n cap) ps) (j : Nat) :
    w.frozen? ⟨g, j * 4, none⟩ = false ∧ w.frozen? ⟨g, j * 4 + 1, none⟩ = false ∧ w.frozen? ⟨g, j * 4 + 2, none⟩ = false ∧ w.frozen? ⟨g, j * 4 + 3, none⟩ = false := ⟨h.frozen _, h.frozen _, h.frozen _, h.frozen _⟩

set_option maxHeartbeats 1000000 in
theorem toSession_any (q : Ss) (w : World) :
    Calls Tryz.prog 70 #[.agg #[.int .i64 q.i, .int .i64 q.l, .string q.t, .int .i64 q.u]] w fun e w' => e = .returned (.agg #[.int .i64 q.i, .int .i64 q.l, .string q.t, .int .i64 q.u]) ∧ Below w.heap.size w w' := by
  go_enter Tryz.func70, Tryz.ntmps70
  go_wp2
  refine bodyPost_ret (v := .agg #[.int .i64 q.i, .int .i64 q.l, .string q.t, .int .i64 q.u]) (by simp [results, Tryz.results70, go_sem]) rfl ⟨rfl, ?_⟩
  repeat (first | with_reducible exact Below.refl _ _ | (with_reducible refine Below.drew ?_) | (with_reducible refine Below.alloc ?_ ?_ _; rotate_left; (focus (first | omega | (simp; omega) | (simp; done)))) | (with_reducible refine Below.setCell ?_ ?_ _; rotate_left; (focus (first | omega | (simp; omega) | (simp; done)))))

set_option maxHeartbeats 1000000 in
theorem eqSession_same (q : Ss) (w : World) :
    Calls Tryz.prog 86 #[.agg #[.int .i64 q.i, .int .i64 q.l, .string q.t, .int .i64 q.u], .agg #[.int .i64 q.i, .int .i64 q.l, .string q.t, .int .i64 q.u]] w fun e w' => e = .returned (.bool true) ∧ Below w.heap.size w w' := by
  go_enter Tryz.func86, Tryz.ntmps86
  go_wp2
  go_ret
  refine ⟨rfl, ?_⟩
  repeat (first | with_reducible exact Below.refl _ _ | (with_reducible refine Below.drew ?_) | (with_reducible refine Below.alloc ?_ ?_ _; rotate_left; (focus (first | omega | (simp; omega) | (simp; done)))) | (with_reducible refine Below.setCell ?_ ?_ _; rotate_left; (focus (first | omega | (simp; omega) | (simp; done)))))

set_option maxHeartbeats 1000000 in
theorem toSessionS_any (a : Option Addr) (n cap : Nat) (ps : List Ss) (w : World) (hn : n = ps.length) (hB : RowG KSs w a ps) (hl : n ≤ 1048576) :
    Calls Tryz.prog 48 #[.slice a n cap] w fun e w' => ∃ g, e = .returned (.slice (some ⟨g, 0, none⟩) n n) ∧ OwnG KSs 96 w' w.heap.size (.slice (some ⟨g, 0, none⟩) n n) ps ∧ Below w.heap.size w w' := by
  obtain ⟨i0, hi, hz0, hz1, hz2⟩ := info_parts Tryz.tySs.2.1
  have HB := hidP hB
  have HN := hidP hn
  clear hB hn
  go_enter Tryz.func48, Tryz.ntmps48
  go_wp2_with (refine wpList_make_full _ rfl (.tmp 6) (.tmp 6) 43 rfl w.heap.size 96 i0 _ 4 Tryz.tySs.1 hi hz0 hz1 .i64 .i64 n n n rfl rfl rfl rfl (by rw [hz2]; omega) (by unfold maxLen; omega) (Nat.le_refl _) ?_; intro w1 hown hgrow)
  have HO : Hid (OwnG KSs 96 w1 w.heap.size (.slice (some ⟨w.heap.size, 0, none⟩) n n) (ps.take 0 ++ List.replicate (ps.length - 0) Ss.zero)) := by
    have hm := made_gen KSs Ss.zero (by show 0 < 4; omega) (.agg #[.int .i64 0, .int .i64 0, .string ⟨#[]⟩, .int .i64 0]) rfl n
    rw [show n * 4 = n * KSs.k from rfl, hm] at hown
    refine hidP ?_
    unfold OwnG
    rw [Nat.sub_zero, List.take_zero, List.nil_append, List.length_replicate, ← HN.out]; exact hown
  have HW : Hid (Below w.heap.size w w1) := (Below.refl _ w).grown hgrow (Nat.le_refl _) (fun k hk => by cases hk)
  clear hown hgrow
  go_loopw [4] (fun t4 wr => ∃ k : Nat, k ≤ n ∧ t4 = .int .i64 k ∧ OwnG KSs 96 wr w.heap.size (.slice (some ⟨w.heap.size, 0, none⟩) n n) (ps.take k ++ List.replicate (ps.length - k) Ss.zero) ∧ Below w.heap.size w wr) (fun t4 _ => n - (intOf t4).toNat)
  case atStart => exact ⟨0, Nat.zero_le _, rfl, HO.out, HW.out⟩
  case round =>
    obtain ⟨k, hk, rfl, hown, hbel⟩ := hrel
    by_cases hlt : k < n
    · obtain ⟨p, o, q, rfl, hp, hq, c0, c1, c2, c3⟩ := rowSs HB.out k (by rw [← HN.out]; exact hlt)
      have d0 := (hbel.cell hp).trans c0
      have d1 := (hbel.cell hp).trans c1
      have d2 := (hbel.cell hp).trans c2
      have d3 := (hbel.cell hp).trans c3
      have HOw := hidP hown
      have HBel := hidP hbel
      have HQ := hidP hq
      clear hown hbel c0 c1 c2 c3 hq HO HW
      go_wp2_with fail
      refine (toSession_any q _).mono ?_
      rintro e w2 ⟨rfl, hb2⟩
      have ho2 := HOw.out.later hb2
      have hlen : n = (ps.take k ++ List.replicate (ps.length - k) Ss.zero).length := by rw [List.length_append, List.length_take, List.length_replicate, HN.out]; have := HN.out; omega
      obtain ⟨f0, f1, f2, f3⟩ := frzSs ho2 k
      have hput' := putSs ho2 hlen k hlt q
      rw [copy_stepG Ss.zero ps k q (by rw [← HN.out]; exact hlt) HQ.out] at hput'
      have HP := hidP hput'
      obtain ⟨q', hp', _, e0, e1, e2, e3⟩ := rowSs0 ho2 k (by rw [← hlen]; exact hlt)
      have HBel2 := hidP (HBel.out.trans (hb2.mono HBel.out.size))
      clear hput' ho2 hb2 HBel HOw d0 d1 d2 d3 hlen
      go_wp2_with fail
      go_roundw
      case rel => exact ⟨k + 1, by omega, by go_num, HP.out, (((HBel2.out.setCell (Nat.le_refl _) _).setCell (Nat.le_refl _) _).setCell (Nat.le_refl _) _).setCell (Nat.le_refl _) _⟩
      case measure => simp [intOf]; omega
    · have hkn : k = n := by omega
      subst hkn
      have HO2 : Hid (OwnG KSs 96 wr w.heap.size (.slice (some ⟨w.heap.size, 0, none⟩) k k) ps) := by
        have e := HN.out
        rw [e, List.take_length, Nat.sub_self, List.replicate_zero, List.append_nil] at hown
        rw [← e] at hown
        exact hidP hown
      have HBel : Hid (Below w.heap.size w wr) := hbel
      clear hown hbel HO HW
      go_wp2
      go_ret
      exact ⟨_, rfl, HO2.out, HBel.out⟩

set_option maxHeartbeats 1000000 in
theorem eqSessionS_same (a b : Option Addr) (n c d : Nat) (ps : List Ss) (w : World) (hn : n = ps.length) (ha : RowG KSs w a ps) (hb : RowG KSs w b ps) (hl : n ≤ 9000000000) :
    Calls Tryz.prog 58 #[.slice a n c, .slice b n d] w fun e w' => e = .returned (.bool true) ∧ Below w.heap.size w w' := by
  have HA := hidP ha
  have HB := hidP hb
  have HN := hidP hn
  clear ha hb hn
  go_enter Tryz.func58, Tryz.ntmps58
  go_wp2
  go_loopw [5] (fun t5 wr => ∃ k : Nat, k ≤ n ∧ t5 = .int .i64 k ∧ Below w.heap.size w wr) (fun t5 _ => n - (intOf t5).toNat)
  case atStart => exact ⟨0, Nat.zero_le _, rfl, Below.refl _ _⟩
  case round =>
    obtain ⟨k, hk, rfl, hbel⟩ := hrel
    have HW := hidP hbel
    by_cases hlt : k < n
    · obtain ⟨p, o, q, rfl, hp, hq, c0, c1, c2, c3⟩ := rowSs HA.out k (by rw [← HN.out]; exact hlt)
      obtain ⟨p', o', q', rfl, hp', hq', d0, d1, d2, d3⟩ := rowSs HB.out k (by rw [← HN.out]; exact hlt)
      rw [hq] at hq'
      cases hq'
      have c0' := (hbel.cell hp).trans c0
      have c1' := (hbel.cell hp).trans c1
      have c2' := (hbel.cell hp).trans c2
      have c3' := (hbel.cell hp).trans c3
      have d0' := (hbel.cell hp').trans d0
      have d1' := (hbel.cell hp').trans d1
      have d2' := (hbel.cell hp').trans d2
      have d3' := (hbel.cell hp').trans d3
      clear c0 c1 c2 c3 d0 d1 d2 d3 hq hbel
      go_wp2_with fail
      go_region_with (first | (go_at_call 86; refine (eqSession_same q _).mono ?_; rintro e w2 ⟨rfl, hb2⟩))
      all_goals
        have HW2 := hidP (HW.out.drew.trans (hb2.mono HW.out.drew.size))
        clear hb2
        go_wp2
        go_roundw
        case rel => exact ⟨k + 1, by omega, by go_num, HW2.out⟩
        case measure => simp [intOf]; omega
    · have hkn : k = n := by omega
      subst hkn
      clear hbel
      go_wp2
      go_ret
      exact ⟨rfl, HW.out⟩

theorem Tryz.cellsSs : Tryz.prog.cellsOf 119 = 4 := by kernel_rfl
/-- One out of its cells. -/
theorem ofSs {H : Type} {enc : TypeId × Value → H} {W : World} {fuel : Nat} {cs : List Value} {x : DataW H × List MemPlace} (hl : cs.length = 4)
    (h : DataW.trod enc Tryz.prog W 0 (fun _ => true) true fuel 119 cs = some x) : ∃ q : Ss, cs = q.cs ∧ q.t.size ≤ 9223372036854775807 := by
  match cs, hl with
  | [c0, c1, c2, c3], _ =>
    obtain ⟨z0, z1, z2, z3, n, hx, _, h0, h1, h2, h3⟩ := trod_struct4 Tryz.underlying119 h
    have ks : Tryz.prog.cellsOf 9 = 1 := by kernel_rfl
    have ki : Tryz.prog.cellsOf 3 = 1 := by kernel_rfl
    simp [ks, ki] at h0 h1 h2 h3
    obtain ⟨y, e0, _, wy⟩ := DataW.trod_int Tryz.underlying3 h0
    obtain ⟨k, e1, _, wk⟩ := DataW.trod_int Tryz.underlying3 h1
    obtain ⟨s, e2, _, ws⟩ := DataW.trod_string Tryz.underlying9 h2
    obtain ⟨u, e3, _, wu⟩ := DataW.trod_int Tryz.underlying3 h3
    simp at e0 e1 e2 e3
    subst e0 e1 e2 e3
    exact ⟨⟨y, k, s, u⟩, rfl, by unfold maxLen at ws; show s.size ≤ _; omega⟩


set_option maxRecDepth 100000 in
/-- The things out of the reading of a row of them. -/
theorem openSs {H : Type} {enc : TypeId × Value → H} {W : World} {a : Option Addr} {len cap : Nat} {d : DataW H} {p : List MemPlace}
    (h : DataW.Trod enc Tryz.prog W 0 (fun _ => true) true 29 (.slice a len cap) d p) : ∃ ps : List Ss, ps.length = len ∧ len ≤ 9223372036854775807 ∧ RowG KSs W a ps ∧ ∀ q ∈ ps, q.t.size ≤ 9223372036854775807 := by
  obtain ⟨fuel, hf⟩ := h
  rcases open_slice Tryz.underlying29 hf with ⟨hcs, _⟩ | ⟨a', len', cap', m, n, D, Plc, hcs, _, hl, hmx, hm, _, hV⟩
  · simp [Value.cells] at hcs
    obtain ⟨rfl, rfl, rfl⟩ := hcs
    exact ⟨[], rfl, by omega, RowG.nil _ _ _, fun _ h => by cases h⟩
  · simp [Value.cells] at hcs
    obtain ⟨rfl, rfl, rfl⟩ := hcs
    suffices h9 : ∃ ps : List Ss, ps.length = len ∧ RowG KSs W (some a') ps ∧ ∀ q ∈ ps, q.t.size ≤ 9223372036854775807 by
      obtain ⟨ps, h1, h2⟩ := h9
      exact ⟨ps, h1, by unfold maxLen at hmx; omega, h2⟩
    refine rowsG_of2 (E := fun q : Ss => q.t.size ≤ 9223372036854775807) _ _ fun j hj => ?_
    simp at hm
    obtain ⟨cs', h1, h2⟩ := hV j (by omega)
    rw [Tryz.cellsSs] at h1
    obtain ⟨_, hlen, hcell⟩ := World.cells?_some h1
    obtain ⟨q, rfl, hq9⟩ := ofSs hlen h2
    obtain ⟨p', o', sp⟩ := a'
    cases sp with
    | some r =>
      exfalso
      obtain ⟨cs0, g1, g2⟩ := hV 0 (by omega)
      rw [Tryz.cellsSs] at g1
      obtain ⟨_, glen, gcell⟩ := World.cells?_some g1
      obtain ⟨q0, rfl, _⟩ := ofSs glen g2
      have h0 := gcell 0 (by omega)
      rw [Nat.zero_mul, show Addr.add (Addr.add ⟨p', o', some r⟩ 0) 0 = ⟨p', o', some r⟩ from rfl] at h0
      unfold World.cell? at h0
      split at h0
      · simp [Ss.cs] at h0
      · cases h0
    | none =>
      have ea : ∀ i k : Nat, Addr.add (Addr.add ⟨p', o', none⟩ i) k = ⟨p', o' + i + k, none⟩ := fun i k => by
        have ea1 : ∀ (o k : Nat), Addr.add ⟨p', o, none⟩ k = ⟨p', o + k, none⟩ := fun o k => by unfold Addr.add; split <;> simp_all
        rw [ea1, ea1]
      have hall : ∀ i v, (KSs.cs q)[i]? = some v → W.cell? ⟨p', o' + j * KSs.k + i, none⟩ = some v := fun i v hv => by
        have hi : i < 4 := by
          rcases Nat.lt_or_ge i (KSs.cs q).length with h1 | h1
          · exact h1
          · rw [List.getElem?_eq_none h1] at hv; cases hv
        have e0 := hcell i hi
        rw [ea] at e0
        exact e0.trans hv
      exact ⟨p', o', q, rfl, World.block_lt_of_cell? W _ (hall 0 _ rfl), hall, hq9⟩

end Go.Proofs.YtplocbpngikohaaGreat
namespace Go.Proofs.YtplocbpngikohaaGreat
open Go.ChangeShapes Go.WideShapes Go.ChangeAt Go.RowKit Go.Joins Go.Deep

/-- How many bytes the replies have. -/
def sumS : List Ss → Nat
  | [] => 0
  | q :: t => q.t.size + sumS t
theorem sumS_app : ∀ xs ys : List Ss, sumS (xs ++ ys) = sumS xs + sumS ys
  | [], ys => by simp [sumS]
  | q :: t, ys => by simp [sumS, sumS_app t ys]; omega
theorem sumS_next {bs : List Ss} {k : Nat} {q : Ss} (h : bs[k]? = some q) : sumS (bs.take (k + 1)) = sumS (bs.take k) + q.t.size := by
  rw [List.take_add_one, h, sumS_app]; simp [sumS]
theorem sumS_le (bs : List Ss) (k : Nat) : sumS (bs.take k) ≤ sumS bs := by
  conv => rhs; rw [← List.take_append_drop k bs, sumS_app]
  omega


set_option maxHeartbeats 400000 in
theorem szSession_any (q : Ss) (l : Int) (h0 : 0 ≤ l) (h1 : l ≤ 1048576) (h9 : q.t.size ≤ 9223372036854775807) (w : World) :
    Calls Tryz.prog 61 #[.agg #[.int .i64 q.i, .int .i64 q.l, .string q.t, .int .i64 q.u], .int .i64 l] w fun e w' => e = .returned (.int .i64 (szO l q.t.size)) ∧ Below w.heap.size w w' := by
  by_cases hd : l - (q.t.size : Int) < 0
  · rw [szO_yes hd]
    go_enter Tryz.func61, Tryz.ntmps61
    go_wp2
    go_ret
    exact ⟨rfl, (Below.refl _ _).alloc (Nat.le_refl _) _⟩
  · rw [szO_no hd]
    have hd2 : decide (l - (q.t.size : Int) < 0) = false := decide_eq_false hd
    go_enter Tryz.func61, Tryz.ntmps61
    go_wp2
    go_ret
    exact ⟨rfl, (Below.refl _ _).alloc (Nat.le_refl _) _⟩

set_option maxHeartbeats 1000000 in
theorem szSessionS_any (a : Option Addr) (n cap : Nat) (bs : List Ss) (l : Int) (h0 : 0 ≤ l) (h1 : l ≤ 1048576) (w : World) (hn : n = bs.length) (hB : RowG KSs w a bs) (h9 : n ≤ 9223372036854775807) (hst : ∀ q ∈ bs, q.t.size ≤ 9223372036854775807) :
    Calls Tryz.prog 34 #[.slice a n cap, .int .i64 l] w fun e w' => e = .returned (.int .i64 (szB n (sumS bs) l)) ∧ Below w.heap.size w w' := by
  have HB := hidP hB
  have HN := hidP hn
  have HST := hidP hst
  clear hB hn hst
  by_cases hnl : l < (n : Int)
  · rw [szB_no (by omega)]
    have d1 : decide (l - (n : Int) < 0) = true := decide_eq_true (by omega)
    go_enter Tryz.func34, Tryz.ntmps34
    go_wp2
    go_ret
    exact ⟨rfl, Below.refl _ _⟩
  · have d1 : decide (l - (n : Int) < 0) = false := decide_eq_false (by omega)
    have d2 : ¬ (l - (n : Int) < 0) := by omega
    go_enter Tryz.func34, Tryz.ntmps34
    go_wp2_with fail
    go_loopw [1, 5] (fun t1 t5 wr => ∃ (k : Nat) (z : Int), k ≤ n ∧ t5 = .int .i64 k ∧ t1 = .int .i64 z ∧ z = l - n - sumS (bs.take k) ∧ 0 ≤ z ∧ Below w.heap.size w wr) (fun _ t5 _ => n - (intOf t5).toNat)
    case atStart => exact ⟨0, l - n, Nat.zero_le _, rfl, rfl, by simp [sumS], by omega, Below.refl _ _⟩
    case round =>
      obtain ⟨k, z, hk, rfl, rfl, hz, hz0, hbel⟩ := hrel
      by_cases hlt : k < n
      · obtain ⟨p, o, q, rfl, hp, hq, c0, c1, c2, c3⟩ := rowSs HB.out k (by rw [← HN.out]; exact hlt)
        have d0 := (hbel.cell hp).trans c0
        have d1 := (hbel.cell hp).trans c1
        have d2 := (hbel.cell hp).trans c2
        have d3 := (hbel.cell hp).trans c3
        have HBel := hidP hbel
        have HNx := hidP (sumS_next hq)
        have HLe := hidP (sumS_le bs (k + 1))
        have hz1 : z ≤ 1048576 := by omega
        have HZ := hidP hz
        have HS := hidP (szSession_any q z hz0 hz1 (HST.out q (List.mem_of_getElem? hq)))
        clear c0 c1 c2 c3 hq hbel hz
        by_cases hd : z - (q.t.size : Int) < 0
        · rw [szO_yes hd] at HS
          have HF : Hid (¬ ((n : Int) + (sumS bs : Int) ≤ l)) := hidP (by have := HZ.out; have := HNx.out; have := HLe.out; omega)
          go_wp2_with fail
          refine (HS.out _).mono ?_
          rintro e w2 ⟨rfl, hb2⟩
          have HB2 := hidP (HBel.out.trans (hb2.mono HBel.out.size))
          clear hb2 HBel d0 d1 d2 d3
          go_wp2_with fail
          go_ret
          exact ⟨ret_i (szB_no (by have := HF.out; omega)).symm, HB2.out⟩
        · rw [szO_no hd] at HS
          have hd2 : decide (z - (q.t.size : Int) < 0) = false := decide_eq_false hd
          go_wp2_with fail
          refine (HS.out _).mono ?_
          rintro e w2 ⟨rfl, hb2⟩
          have HB2 := hidP (HBel.out.trans (hb2.mono HBel.out.size))
          clear hb2 HBel d0 d1 d2 d3
          go_wp2_with fail
          go_roundw
          case rel => exact ⟨k + 1, z - (q.t.size : Int), by omega, by go_num, rfl, by have := HZ.out; have := HNx.out; omega, by omega, HB2.out⟩
          case measure => simp [intOf]; omega
      · have hkn : k = n := by omega
        have HF : Hid ((n : Int) + (sumS bs : Int) ≤ l ∧ z = l - n - sumS bs) := by
          rw [List.take_of_length_le (by have := HN.out; omega)] at hz
          exact hidP ⟨by omega, hz⟩
        have HBel := hidP hbel
        clear hbel hz
        go_wp2_with fail
        go_ret
        exact ⟨ret_i (by rw [szB_yes HF.out.1, ← HF.out.2]), HBel.out⟩


/-- How much of a law's room a desk takes. -/
def totD (ls : List Ss) : Int := ls.length + sumS ls
theorem box2D (w : World) (t : TypeId) (u v : Value) : (w.alloc (.cells #[u, v] t)).cell? ⟨w.heap.size, 0, none⟩ = some u ∧ (w.alloc (.cells #[u, v] t)).cell? ⟨w.heap.size, 1, none⟩ = some v := ⟨by simp [go_sem], by simp [go_sem]⟩

set_option maxHeartbeats 1000000 in
theorem szDesk_at (a : Option Addr) (n c : Nat) (N : Int) (ls : List Ss) (l : Int) (h0 : 0 ≤ l) (h1 : l ≤ 1048576) (w : World) (hn : n = ls.length) (hP : RowG KSs w a ls) (h9 : n ≤ 9223372036854775807) (hst : ∀ q ∈ ls, q.t.size ≤ 9223372036854775807) :
    Calls Tryz.prog 15 #[.agg #[.slice a n c, .int .i64 N], .int .i64 l] w fun e w' => e = .returned (.int .i64 (szB ls.length (sumS ls) l)) ∧ Below w.heap.size w w' := by
  rw [← hn]
  have HS := hidP (fun W h => szSessionS_any a n c ls l h0 h1 W hn (hP.later h) h9 hst)
  clear hP hn hst
  by_cases ht : (n : Int) + (sumS ls : Int) ≤ l
  · rw [szB_yes ht] at HS
    rw [szB_yes ht]
    have hz2 : decide (l - (n : Int) - (sumS ls : Int) < 0) = false := decide_eq_false (by omega)
    generalize he : (l - (n : Int) - (sumS ls : Int)) = z at *
    have hz3 : ¬ z < 0 := by omega
    have HE := hidP he
    clear he
    go_enter Tryz.func15, Tryz.ntmps15
    go_wp2_with fail
    refine (HS.out _ (alloc_below w _)).mono ?_
    rintro e w2 ⟨rfl, hb2⟩
    have HB2 := hidP hb2
    clear hb2
    go_wp2_with fail
    go_ret
    exact ⟨ret_i (by have := HE.out; omega), (alloc_below w _).trans (HB2.out.mono (alloc_below w _).size)⟩
  · rw [szB_no ht] at HS
    rw [szB_no ht]
    go_enter Tryz.func15, Tryz.ntmps15
    go_wp2_with fail
    refine (HS.out _ (alloc_below w _)).mono ?_
    rintro e w2 ⟨rfl, hb2⟩
    have HB2 := hidP hb2
    clear hb2
    go_wp2_with fail
    go_ret
    exact ⟨rfl, (alloc_below w _).trans (HB2.out.mono (alloc_below w _).size)⟩

set_option maxHeartbeats 1000000 in
theorem toDesk_any (a : Option Addr) (n c : Nat) (N : Int) (ls : List Ss) (w : World) (hn : n = ls.length) (hP : RowG KSs w a ls) (hl : n ≤ 1048576) :
    Calls Tryz.prog 22 #[.agg #[.slice a n c, .int .i64 N]] w fun e w' => ∃ g, e = .returned (.agg #[.slice (some ⟨g, 0, none⟩) n n, .int .i64 N]) ∧ OwnG KSs 96 w' w.heap.size (.slice (some ⟨g, 0, none⟩) n n) ls ∧ Below w.heap.size w w' := by
  have HTP := hidP (fun W h => toSessionS_any a n c ls W hn (hP.later h) hl)
  clear hP hn
  go_enter Tryz.func22, Tryz.ntmps22
  go_wp2_with fail
  refine (HTP.out _ ?_).mono ?_
  · repeat (first | with_reducible exact Below.refl _ _ | (with_reducible refine Below.drew ?_) | (with_reducible refine Below.alloc ?_ ?_ _; rotate_left; (focus (first | omega | (simp; omega) | (simp; done)))) | (with_reducible refine Below.setCell ?_ ?_ _; rotate_left; (focus (first | omega | (simp; omega) | (simp; done)))))
  rintro e w1 ⟨g, rfl, og, hb1⟩
  have hz1 := hb1.size
  try simp at hz1
  have hgl := OwnG.lt og g rfl
  try simp at hgl
  have f10 : w.heap.size < w1.heap.size := by omega
  have f11 : w.heap.size + 1 < w1.heap.size := by omega
  have f12 : w.heap.size + 2 < w1.heap.size := by omega
  refine olds_k (w.heap.size + 3) hb1 ?_ ?_
  · first | omega | (simp; omega) | (simp; done)
  intro hc1 hf1
  have OG := hidP og
  clear og
  go_wp2_with fail
  refine bodyPost_ret (v := .agg #[.slice (some ⟨g, 0, none⟩) n n, .int .i64 N]) (by simp [results, Tryz.results22, go_sem, hc1]) rfl ⟨g, rfl, ?_, ?_⟩
  · have ne : ∀ x : Nat, x < w.heap.size + 3 → ∀ k, (Value.slice (some ⟨g, 0, none⟩) n n).ownBlock = some k → some x ≠ some k := fun x hx k hk e => by simp [Value.ownBlock] at hk e; omega
    refine OwnG.mono (B := w.heap.size + 3) ?_ (by omega)
    iterate 4 (with_reducible refine OwnG.grown ?_ (grown_cellG _ _ _ _) ?_; rotate_left; (focus (exact ne _ (by omega))))
    with_reducible exact OG.out.mono (by first | (simp; done) | (simp; omega))
  · repeat (first | with_reducible exact Below.refl _ _ | (with_reducible refine Below.drew ?_) | (with_reducible refine Below.alloc ?_ ?_ _; rotate_left; (focus (first | omega | (simp; omega) | (simp; done)))) | (with_reducible refine Below.setCell ?_ ?_ _; rotate_left; (focus (first | omega | (simp; omega) | (simp; done)))) | (with_reducible refine Below.trans ?_ (hb1.mono ?_); rotate_left; (focus (first | omega | (simp; omega) | (simp; done)))))

set_option maxHeartbeats 1000000 in
theorem eqDesk_same (a a' : Option Addr) (n c c' : Nat) (N : Int) (ls : List Ss) (w : World) (hn : n = ls.length) (hP : RowG KSs w a ls) (hP' : RowG KSs w a' ls) (hl : n ≤ 9000000000) :
    Calls Tryz.prog 29 #[.agg #[.slice a n c, .int .i64 N], .agg #[.slice a' n c', .int .i64 N]] w fun e w' => e = .returned (.bool true) ∧ Below w.heap.size w w' := by
  have HTP := hidP (fun W h => eqSessionS_same a a' n c c' ls W hn (hP.later h) (hP'.later h) hl)
  clear hP hP' hn
  go_enter Tryz.func29, Tryz.ntmps29
  go_wp2_with fail
  refine (HTP.out _ ?_).mono ?_
  · repeat (first | with_reducible exact Below.refl _ _ | (with_reducible refine Below.drew ?_) | (with_reducible refine Below.alloc ?_ ?_ _; rotate_left; (focus (first | omega | (simp; omega) | (simp; done)))) | (with_reducible refine Below.setCell ?_ ?_ _; rotate_left; (focus (first | omega | (simp; omega) | (simp; done)))))
  rintro e w1 ⟨rfl, hb1⟩
  have hz1 := hb1.size
  try simp at hz1
  have f10 : w.heap.size < w1.heap.size := by omega
  have f11 : w.heap.size + 1 < w1.heap.size := by omega
  refine olds_k (w.heap.size + 2) hb1 ?_ ?_
  · first | omega | (simp; omega) | (simp; done)
  intro hc1 hf1
  go_wp2_with fail
  go_ret
  refine ⟨rfl, ?_⟩
  repeat (first | with_reducible exact Below.refl _ _ | (with_reducible refine Below.drew ?_) | (with_reducible refine Below.alloc ?_ ?_ _; rotate_left; (focus (first | omega | (simp; omega) | (simp; done)))) | (with_reducible refine Below.setCell ?_ ?_ _; rotate_left; (focus (first | omega | (simp; omega) | (simp; done)))) | (with_reducible refine Below.trans ?_ (hb1.mono ?_); rotate_left; (focus (first | omega | (simp; omega) | (simp; done)))))

end Go.Proofs.YtplocbpngikohaaGreat
namespace Go.Proofs.YtplocbpngikohaaGreat
open Go.RowKit

def tmB (u : Int) : Bool := decide (0 ≤ u) && decide (u ≤ 1000000000)
def emB (t : ByteArray) : Bool := t.toList.isEmpty
/-- A session but for its Id. -/
def okSs (q : Ss) : Bool := ((decide (0 ≤ q.l) && decide (q.l ≤ 1000000)) && (decide ((q.t.size : Int) ≤ 200) && (decide (0 < q.l) || emB q.t))) && tmB q.u
/-- The sessions of a desk whose Next is N, behind one whose Id is p. -/
def sesF (N : Int) (p : Int) : List Ss → Bool
  | [] => true
  | q :: t => ((decide (p < q.i) && decide (q.i < N)) && okSs q) && sesF N q.i t
/-- DeskOk. -/
def dkB (ls : List Ss) (N : Int) : Bool := (decide ((ls.length : Int) ≤ 12) && (decide (1 ≤ N) && decide (N ≤ 1000000))) && sesF N 0 ls
/-- The Id ahead of place k, 0 ahead of the first. -/
def prvS (ls : List Ss) (k : Nat) : Int := match k with
  | 0 => 0
  | k + 1 => match ls[k]? with | some q => q.i | none => 0
theorem prvS_next {ls : List Ss} {k : Nat} {q : Ss} (h : ls[k]? = some q) : prvS ls (k + 1) = q.i := by simp [prvS, h]
theorem drop_at7 {α : Type} {ls : List α} {k : Nat} {q : α} (h : ls[k]? = some q) : ls.drop k = q :: ls.drop (k + 1) := by
  obtain ⟨hk, rfl⟩ := List.getElem?_eq_some_iff.1 h
  exact List.drop_eq_getElem_cons hk
theorem ret_b7 {a b : Bool} (h : a = b) : Ending.returned (.bool a) = .returned (.bool b) := by rw [h]

end Go.Proofs.YtplocbpngikohaaGreat
namespace Go.Proofs.YtplocbpngikohaaGreat
open Go.RowKit

theorem had_in {p : Pf} {s : Bool} {H L : BitVec 64} (h : hadB p.s p.H p.L p.b s H L = true) : s = p.s ∧ p.ad ≤ adrN H L ∧ adrN H L < p.ad + 2 ^ p.sz := by
  unfold hadB at h
  rw [Bool.and_eq_true, Bool.and_eq_true] at h
  obtain ⟨hp, _, hh⟩ := h
  obtain ⟨x, hx, rfl⟩ := Sp.of_pok (p := p) hp
  have e : ((wd x.s : Int) - ((wd x.s : Int) - x.n)).toNat = x.n := by omega
  have e1 : (Sp.pre x).sz = x.n := e
  have hh2 : hasB x.s x.H x.L ((wd x.s : Int) - ((wd x.s : Int) - x.n)).toNat s H L = true := hh
  rw [e] at hh2
  rw [e1]
  refine (one_in (t := ⟨s, H, L, 0⟩) (x := x) rfl hx).1 ?_
  unfold wB withB
  rw [decide_eq_true (Nat.zero_le _), Bool.true_and]
  exact hh2
theorem fol_had {p q : Pf} (h : fol p q) {s : Bool} {H L : BitVec 64} (h1 : hadB p.s p.H p.L p.b s H L = true) (h2 : hadB q.s q.H q.L q.b s H L = true) : False := by
  obtain ⟨a1, a2, a3⟩ := had_in h1
  obtain ⟨b1, b2, b3⟩ := had_in h2
  rcases h with ⟨c1, c2⟩ | ⟨c1, c2⟩
  · rw [← a1] at c1; rw [← b1, c1] at c2; cases c2
  · omega
theorem blocks_pw {ps : List Pl} : ∀ (bs : List Bk) (r : Option Pf), (∀ p, r = some p → p.pk = true) → blocksI ps r bs = true → bs.Pairwise (fun q u => fol q.p u.p) ∧ ∀ p, r = some p → ∀ q ∈ bs, fol p q.p
  | [], _, _, _ => ⟨List.Pairwise.nil, fun _ _ _ h => by cases h⟩
  | q :: t, r, hr, h => by
      unfold blocksI at h
      rw [Bool.and_eq_true, Bool.and_eq_true, Bool.and_eq_true] at h
      obtain ⟨⟨⟨_, hc⟩, hf⟩, ht⟩ := h
      have hq := carB_pk hc
      obtain ⟨h1, h2⟩ := blocks_pw t (some q.p) (fun p hp => by cases hp; exact hq) ht
      have h3 := h2 q.p rfl
      refine ⟨List.pairwise_cons.2 ⟨h3, h1⟩, fun p hp u hu => ?_⟩
      subst hp
      have hf' : folB p q.p = true := hf
      unfold folB at hf'
      rw [Bool.and_eq_true, Bool.not_eq_true'] at hf'
      have hpq := fol_of (hr p rfl) hq (of_decide_eq_true hf'.1) hf'.2
      rcases List.mem_cons.1 hu with rfl | hu
      · exact hpq
      · exact fol_trans hpq (h3 u hu)
theorem txt_ne {a b : ByteArray} (h : a ≠ b) : (a.toList == b.toList) = false := by
  rw [ByteArray.toList_eq, ByteArray.toList_eq]
  obtain ⟨⟨x⟩⟩ := a
  obtain ⟨⟨y⟩⟩ := b
  have hn : x ≠ y := fun e => h (by rw [e])
  simpa using hn
theorem txt_eq (a : ByteArray) : (a.toList == a.toList) = true := by simp
/-- Whether a block of this owner's has the address. -/
def lieF (t : ByteArray) (s : Bool) (H L : BitVec 64) (q : Bk) : Bool := decide (q.t = t) && hadB q.p.s q.p.H q.p.L q.p.b s H L
def lieB (bs : List Bk) (l : Ls) : Bool := bs.any (lieF l.t l.a.s l.a.H l.a.L)
/-- Whether the first block that has the address is this owner's. -/
def lieS (bs : List Bk) (l : Ls) : Bool := (bkF l.a.s l.a.H l.a.L bs).2 && decide ((bkF l.a.s l.a.H l.a.L bs).1.t = l.t)
theorem lie_same : ∀ (bs : List Bk) (l : Ls), bs.Pairwise (fun q u => fol q.p u.p) → lieB bs l = lieS bs l
  | [], l, _ => rfl
  | q :: t, l, h => by
      have hp := List.pairwise_cons.1 h
      unfold lieB lieS bkF
      rw [List.any_cons]
      by_cases hh : hadB q.p.s q.p.H q.p.L q.p.b l.a.s l.a.H l.a.L = true
      · rw [if_pos hh]
        have hn : t.any (lieF l.t l.a.s l.a.H l.a.L) = false := by
          rw [List.any_eq_false]
          intro u hu hc
          unfold lieF at hc
          rw [Bool.and_eq_true] at hc
          exact fol_had (hp.1 u hu) hh hc.2
        rw [hn, Bool.or_false, Bool.true_and]
        unfold lieF
        rw [hh, Bool.and_true]
      · rw [if_neg hh]
        have hf : lieF l.t l.a.s l.a.H l.a.L q = false := by
          unfold lieF
          rw [Bool.not_eq_true] at hh
          rw [hh, Bool.and_false]
        rw [hf, Bool.false_or]
        exact lie_same t l hp.2
theorem plan_pw {ps : List Pl} {bs : List Bk} (h : planB ps bs = true) : bs.Pairwise (fun q u => fol q.p u.p) := by
  unfold planB at h
  rw [Bool.and_eq_true] at h
  have h2 := h.2
  rw [Bool.and_eq_true] at h2
  exact (blocks_pw bs none (fun _ h => by cases h) h2.2).1
/-- What both StateOk answer. -/
def stB (ps : List Pl) (bs : List Bk) (ls : List Ls) (T N : Int) (ss : List Ss) (X C : Int) : Bool := (planB ps bs && (bkB ls T N && (dkB ss X && decide (0 ≤ C)))) && ls.all (lieB bs)

end Go.Proofs.YtplocbpngikohaaGreat
namespace Go.Proofs.YtplocbpngikohaaGreat
open Go.RowKit

set_option maxHeartbeats 1000000 in
theorem idx_lie (f : Bk → Bool) (ob cb : Nat) (a : Option Addr) (n cap : Nat) (ps : List Bk) (w : World) (hn : n = ps.length) (hB : RowG KBk w a ps) (hl : n ≤ 9000000000)
    (hf : ∀ (x : Bk) (W : World), Below w.heap.size w W → Calls Tryz.prog 81 #[.agg #[.bool x.p.s, .int .i64 x.p.H.toInt, .int .i64 x.p.L.toInt, .int .i64 x.p.b, .string x.t], .pointer (some ⟨ob, 0, none⟩), .pointer (some ⟨cb, 0, none⟩)] W fun e w' => e = .returned (.bool (f x)) ∧ Below W.heap.size W w') :
    Calls Tryz.prog 103 #[.slice a n cap, .func (.func 81) #[] #[.pointer (some ⟨ob, 0, none⟩), .pointer (some ⟨cb, 0, none⟩)]] w fun e w' => e = .returned (.int .i64 (ixF f 0 ps)) ∧ Below w.heap.size w w' := by
  have HB := hidP hB
  have HN := hidP hn
  have HF := hidP hf
  clear hB hn hf
  go_enter Tryz.func103, Tryz.ntmps103
  go_wp2_with fail
  go_loopw [5, 8] (fun _ t8 wr => ∃ k : Nat, k ≤ n ∧ t8 = .int .i64 k ∧ ixF f 0 ps = ixF f k (ps.drop k) ∧ Below w.heap.size w wr) (fun _ t8 _ => n - (intOf t8).toNat)
  case atStart => exact ⟨0, Nat.zero_le _, rfl, rfl, Below.refl _ _⟩
  case round =>
    obtain ⟨k, hk, rfl, hix, hbel⟩ := hrel
    by_cases hlt : k < n
    · obtain ⟨p, o, q, rfl, hp, hq, c0, c1, c2, c3, c4⟩ := rowBk HB.out k (by rw [← HN.out]; exact hlt)
      have d0 := (hbel.cell hp).trans c0
      have d1 := (hbel.cell hp).trans c1
      have d2 := (hbel.cell hp).trans c2
      have d3 := (hbel.cell hp).trans c3
      have d4 := (hbel.cell hp).trans c4
      have HBel := hidP hbel
      have hst := ixF_step f ps k q hq
      rw [hst] at hix
      have HX := hidP hix
      have HFq := hidP (HF.out q _ hbel)
      clear hbel c0 c1 c2 c3 c4 hq hix hst
      cases hfq : f q
      · rw [hfq] at HX HFq
        go_wp2_with (first | (go_at_call 81; refine (HFq.out).mono ?_; rintro e w2 ⟨rfl, hb2⟩))
        have HB2 := hidP (HBel.out.trans (hb2.mono HBel.out.size))
        clear hb2 HBel d0 d1 d2 d3 d4
        go_wp2_with fail
        go_roundw
        case rel => exact ⟨k + 1, by omega, by go_num, by rw [HX.out]; simp, HB2.out⟩
        case measure => simp [intOf]; omega
      · rw [hfq] at HX HFq
        go_wp2_with (first | (go_at_call 81; refine (HFq.out).mono ?_; rintro e w2 ⟨rfl, hb2⟩))
        have HB2 := hidP (HBel.out.trans (hb2.mono HBel.out.size))
        clear hb2 HBel d0 d1 d2 d3 d4
        go_wp2_with fail
        go_ret
        exact ⟨ret_i (by rw [HX.out]; simp), HB2.out⟩
    · have HX : Hid (ixF f 0 ps = -1) := by
        rw [List.drop_of_length_le (by have := HN.out; omega)] at hix
        exact hidP hix
      have HBel := hidP hbel
      clear hbel hix
      go_wp2_with fail
      go_ret
      exact ⟨ret_i HX.out.symm, HBel.out⟩

set_option maxHeartbeats 1000000 in
theorem cont_lie (f : Bk → Bool) (ob cb : Nat) (a : Option Addr) (n cap : Nat) (ps : List Bk) (w : World) (hn : n = ps.length) (hB : RowG KBk w a ps) (hl : n ≤ 9000000000)
    (hf : ∀ (x : Bk) (W : World), Below w.heap.size w W → Calls Tryz.prog 81 #[.agg #[.bool x.p.s, .int .i64 x.p.H.toInt, .int .i64 x.p.L.toInt, .int .i64 x.p.b, .string x.t], .pointer (some ⟨ob, 0, none⟩), .pointer (some ⟨cb, 0, none⟩)] W fun e w' => e = .returned (.bool (f x)) ∧ Below W.heap.size W w') :
    Calls Tryz.prog 80 #[.slice a n cap, .func (.func 81) #[] #[.pointer (some ⟨ob, 0, none⟩), .pointer (some ⟨cb, 0, none⟩)]] w fun e w' => e = .returned (.bool (ps.any f)) ∧ Below w.heap.size w w' := by
  have H := hidP (idx_lie f ob cb a n cap ps w hn hB hl hf)
  have HA := hidP (ixF_any f ps 0 (by omega))
  clear hn hB hl hf
  go_enter Tryz.func80, Tryz.ntmps80
  go_wp2_with fail
  refine (H.out).mono ?_
  rintro e w2 ⟨rfl, hb2⟩
  go_wp2_with fail
  go_ret
  exact ⟨ret_b HA.out, hb2⟩


set_option maxHeartbeats 1000000 in
theorem lie1_any (t : ByteArray) (s : Bool) (H L : BitVec 64) (q : Bk) (ob cb : Nat) (w : World) (hob : ob < w.heap.size) (hcb : cb < w.heap.size) (y0 : w.cell? ⟨ob, 0, none⟩ = some (.string t)) (x0 : w.cell? ⟨cb, 0, none⟩ = some (.bool s)) (x1 : w.cell? ⟨cb, 1, none⟩ = some (.int .i64 H.toInt)) (x2 : w.cell? ⟨cb, 2, none⟩ = some (.int .i64 L.toInt)) :
    Calls Tryz.prog 81 #[.agg #[.bool q.p.s, .int .i64 q.p.H.toInt, .int .i64 q.p.L.toInt, .int .i64 q.p.b, .string q.t], .pointer (some ⟨ob, 0, none⟩), .pointer (some ⟨cb, 0, none⟩)] w fun e w' => e = .returned (.bool (lieF t s H L q)) ∧ Below w.heap.size w w' := by
  have HW := hidP (iHasAddr_any q.p.s q.p.H q.p.L q.p.b s H L)
  have hne : cb ≠ w.heap.size := by omega
  have hno : ob ≠ w.heap.size := by omega
  unfold lieF
  by_cases h1 : q.t = t
  · rw [decide_eq_true h1, Bool.true_and]
    subst h1
    generalize hadB q.p.s q.p.H q.p.L q.p.b s H L = r at *
    go_enter Tryz.func81, Tryz.ntmps81
    go_wp2_with fail
    refine (HW.out _).mono ?_
    rintro e w1 ⟨rfl, hb1⟩
    go_wp2_with fail
    go_ret
    refine ⟨by cases r <;> rfl, ?_⟩
    repeat (first | with_reducible exact Below.refl _ _ | (with_reducible refine Below.drew ?_) | (with_reducible refine Below.alloc ?_ ?_ _; rotate_left; (focus (first | omega | (simp; omega) | (simp; done)))) | (with_reducible refine Below.setCell ?_ ?_ _; rotate_left; (focus (first | omega | (simp; omega) | (simp; done)))) | (with_reducible refine Below.trans ?_ (hb1.mono ?_); rotate_left; (focus (first | omega | (simp; omega) | (simp; done)))))
  · rw [decide_eq_false h1, Bool.false_and]
    have h2 : decide (q.t = t) = false := decide_eq_false h1
    have h3 := txt_ne h1
    go_enter Tryz.func81, Tryz.ntmps81
    go_wp2_with fail
    go_ret
    exact ⟨rfl, (Below.refl _ _).alloc (Nat.le_refl _) _⟩

theorem box1T (w : World) (t : TypeId) (u : Value) : (w.alloc (.cells #[u] t)).cell? ⟨w.heap.size, 0, none⟩ = some u := by simp [go_sem]

set_option maxHeartbeats 2000000 in
theorem liesWith_any (sb : Nat) (ab : Option Addr) (nb cb : Nat) (bs : List Bk) (l : Ls) (w : World) (hn : nb = bs.length) (hB : RowG KBk w ab bs) (hl : nb ≤ 9000000000) (hs : sb < w.heap.size) (s1 : w.cell? ⟨sb, 1, none⟩ = some (.slice ab nb cb)) :
    Calls Tryz.prog 54 #[.pointer (some ⟨sb, 0, none⟩), .agg #[.bool l.a.s, .int .i64 l.a.H.toInt, .int .i64 l.a.L.toInt], .string l.t] w fun e w' => e = .returned (.bool (lieB bs l)) ∧ Below w.heap.size w w' := by
  unfold lieB
  have e1 : sb ≠ w.heap.size := by omega
  have e2 : sb ≠ w.heap.size + 1 := by omega
  have x1 : (w.alloc (.cells #[.bool l.a.s, .int .i64 l.a.H.toInt, .int .i64 l.a.L.toInt] 55)).cell? ⟨w.heap.size, 0, none⟩ = some (.bool l.a.s) ∧ (w.alloc (.cells #[.bool l.a.s, .int .i64 l.a.H.toInt, .int .i64 l.a.L.toInt] 55)).cell? ⟨w.heap.size, 1, none⟩ = some (.int .i64 l.a.H.toInt) ∧ (w.alloc (.cells #[.bool l.a.s, .int .i64 l.a.H.toInt, .int .i64 l.a.L.toInt] 55)).cell? ⟨w.heap.size, 2, none⟩ = some (.int .i64 l.a.L.toInt) := ⟨by simp [go_sem], by simp [go_sem], by simp [go_sem]⟩
  have b1 := alloc_below w (.cells #[.bool l.a.s, .int .i64 l.a.H.toInt, .int .i64 l.a.L.toInt] 55)
  have l1 := alloc_lt w (.cells #[.bool l.a.s, .int .i64 l.a.H.toInt, .int .i64 l.a.L.toInt] 55)
  have z1 : (w.alloc (.cells #[.bool l.a.s, .int .i64 l.a.H.toInt, .int .i64 l.a.L.toInt] 55)).heap.size = w.heap.size + 1 := by simp
  have b2 := alloc_below (w.alloc (.cells #[.bool l.a.s, .int .i64 l.a.H.toInt, .int .i64 l.a.L.toInt] 55)) (.cells #[.string l.t] 9)
  have l2 := alloc_lt (w.alloc (.cells #[.bool l.a.s, .int .i64 l.a.H.toInt, .int .i64 l.a.L.toInt] 55)) (.cells #[.string l.t] 9)
  have y0 := box1T (w.alloc (.cells #[.bool l.a.s, .int .i64 l.a.H.toInt, .int .i64 l.a.L.toInt] 55)) 9 (.string l.t)
  rw [z1] at l2 y0
  have HC : Hid (Calls Tryz.prog 80 #[.slice ab nb cb, .func (.func 81) #[] #[.pointer (some ⟨w.heap.size + 1, 0, none⟩), .pointer (some ⟨w.heap.size, 0, none⟩)]] ((w.alloc (.cells #[.bool l.a.s, .int .i64 l.a.H.toInt, .int .i64 l.a.L.toInt] 55)).alloc (.cells #[.string l.t] 9)) fun e w' => e = .returned (.bool (bs.any (lieF l.t l.a.s l.a.H l.a.L))) ∧ Below ((w.alloc (.cells #[.bool l.a.s, .int .i64 l.a.H.toInt, .int .i64 l.a.L.toInt] 55)).alloc (.cells #[.string l.t] 9)).heap.size ((w.alloc (.cells #[.bool l.a.s, .int .i64 l.a.H.toInt, .int .i64 l.a.L.toInt] 55)).alloc (.cells #[.string l.t] 9)) w') := by
    refine hidP (cont_lie (lieF l.t l.a.s l.a.H l.a.L) (w.heap.size + 1) w.heap.size ab nb cb bs _ hn ((hB.later b1).later b2) hl (fun q W hW => ?_))
    have q1 := Nat.lt_of_lt_of_le l2 hW.size
    have l3 : w.heap.size < ((w.alloc (.cells #[.bool l.a.s, .int .i64 l.a.H.toInt, .int .i64 l.a.L.toInt] 55)).alloc (.cells #[.string l.t] 9)).heap.size := Nat.lt_of_lt_of_le l1 b2.size
    exact lie1_any l.t l.a.s l.a.H l.a.L q (w.heap.size + 1) w.heap.size W q1 (Nat.lt_of_lt_of_le l3 hW.size) ((hW.cell l2).trans y0) ((hW.cell l3).trans ((b2.cell l1).trans x1.1)) ((hW.cell l3).trans ((b2.cell l1).trans x1.2.1)) ((hW.cell l3).trans ((b2.cell l1).trans x1.2.2))
  have HB2 := hidP (b1.trans (b2.mono b1.size))
  clear x1 b1 l1 z1 b2 l2 y0 hB hn
  go_enter Tryz.func54, Tryz.ntmps54
  go_wp2_with fail
  refine (HC.out).mono ?_
  rintro e w2 ⟨rfl, hb2⟩
  have HE := hidP (HB2.out.trans (hb2.mono HB2.out.size))
  clear hb2 HB2 HC
  go_wp2_with fail
  go_ret
  exact ⟨rfl, HE.out⟩

theorem all_at (ls : List Ls) (f : Ls → Bool) (k : Nat) (q : Ls) (h : ls[k]? = some q) : (ls.drop k).all f = (f q && (ls.drop (k + 1)).all f) := by
  have hk : k < ls.length := by
    rcases Nat.lt_or_ge k ls.length with h' | h'
    · exact h'
    · rw [List.getElem?_eq_none h'] at h; cases h
  rw [List.drop_eq_getElem_cons hk]
  rw [List.getElem?_eq_getElem hk] at h
  cases h; rfl

set_option maxRecDepth 10000 in
set_option maxHeartbeats 2000000 in
theorem leasesLie_any (sb : Nat) (ab : Option Addr) (nb cb : Nat) (bs : List Bk) (a : Option Addr) (n c : Nat) (ls : List Ls) (w : World) (hnb : nb = bs.length) (hK : RowG KBk w ab bs) (hlb : nb ≤ 9000000000) (hn : n = ls.length) (hB : RowG KLs w a ls) (hl : n ≤ 9000000000) (hs : sb < w.heap.size) (s1 : w.cell? ⟨sb, 1, none⟩ = some (.slice ab nb cb)) (s2 : w.cell? ⟨sb, 2, none⟩ = some (.slice a n c)) :
    Calls Tryz.prog 26 #[.pointer (some ⟨sb, 0, none⟩)] w fun e w' => e = .returned (.bool (ls.all (lieB bs))) ∧ Below w.heap.size w w' := by
  have HR := hidP hB
  have HK := hidP hK
  have HN := hidP hn
  have HNB := hidP hnb
  have HS1 := hidP s1
  clear hB hK hn hnb s1
  go_enter Tryz.func26, Tryz.ntmps26
  go_wp2_with fail
  go_loopw [4, 11] (fun _ t11 wr => ∃ k : Nat, k ≤ n ∧ t11 = .int .i64 k ∧ ls.all (lieB bs) = (ls.drop k).all (lieB bs) ∧ Below w.heap.size w wr) (fun _ t11 _ => n - (intOf t11).toNat)
  case atStart => exact ⟨0, Nat.zero_le _, rfl, rfl, Below.refl _ _⟩
  case round =>
    obtain ⟨k, hk, rfl, hpo, hbel⟩ := hrel
    by_cases hlt : k < n
    · obtain ⟨p, o, q, rfl, hp, hq, c0, c1, c2, c3, c4, c5⟩ := rowLs HR.out k (by rw [← HN.out]; exact hlt)
      have d0 := (hbel.cell hp).trans c0
      have d1 := (hbel.cell hp).trans c1
      have d2 := (hbel.cell hp).trans c2
      have d3 := (hbel.cell hp).trans c3
      have d4 := (hbel.cell hp).trans c4
      have d5 := (hbel.cell hp).trans c5
      rw [all_at ls _ k q hq] at hpo
      have HPo := hidP hpo
      have HBel := hidP hbel
      have xB := alloc_below wr (.cells #[.bool q.a.s, .int .i64 q.a.H.toInt, .int .i64 q.a.L.toInt, .string q.t, .int .i64 q.k, .int .i64 q.u] 71)
      have HXB := hidP (hbel.trans (xB.mono hbel.size))
      have HL := hidP (liesWith_any sb ab nb cb bs q (wr.alloc (.cells #[.bool q.a.s, .int .i64 q.a.H.toInt, .int .i64 q.a.L.toInt, .string q.t, .int .i64 q.k, .int .i64 q.u] 71)) HNB.out ((HK.out.later hbel).later xB) hlb (Nat.lt_of_lt_of_le hs HXB.out.size) ((HXB.out.cell hs).trans HS1.out))
      clear c0 c1 c2 c3 c4 c5 hq hpo hbel xB s2
      cases hf : lieB bs q
      · rw [hf] at HL HPo
        have HF : Hid (ls.all (lieB bs) = false) := hidP (by rw [HPo.out]; rfl)
        clear HPo
        go_wp2_with fail
        refine (HL.out).mono ?_
        rintro e w2 ⟨rfl, hb2⟩
        have HE := hidP (HXB.out.trans (hb2.mono HXB.out.size))
        clear hb2 HXB HBel d0 d1 d2 d3 d4 d5 HL
        go_wp2_with fail
        go_ret
        exact ⟨ret_b HF.out.symm, HE.out⟩
      · rw [hf, Bool.true_and] at HPo
        rw [hf] at HL
        go_wp2_with fail
        refine (HL.out).mono ?_
        rintro e w2 ⟨rfl, hb2⟩
        have HE := hidP (HXB.out.trans (hb2.mono HXB.out.size))
        clear hb2 HXB HBel d0 d1 d2 d3 d4 d5 HL
        go_wp2_with fail
        go_roundw
        case rel => exact ⟨k + 1, by omega, by go_num, HPo.out, HE.out⟩
        case measure => simp [intOf]; omega
    · have HX : Hid (ls.all (lieB bs) = true) := by
        rw [List.drop_of_length_le (by have := HN.out; omega)] at hpo
        exact hidP hpo
      have HBel := hidP hbel
      clear hbel hpo
      go_wp2_with fail
      go_ret
      exact ⟨ret_b HX.out.symm, HBel.out⟩

end Go.Proofs.YtplocbpngikohaaGreat
namespace Go.Proofs.YtplocbpngikohaaGreat
open Go.ChangeShapes Go.WideShapes Go.ChangeAt Go.RowKit Go.Joins Go.Deep

/-- How many bytes the owners have. -/
def sumL : List Ls → Nat
  | [] => 0
  | q :: t => q.t.size + sumL t
theorem sumL_app : ∀ xs ys : List Ls, sumL (xs ++ ys) = sumL xs + sumL ys
  | [], ys => by simp [sumL]
  | q :: t, ys => by simp [sumL, sumL_app t ys]; omega
theorem sumL_next {bs : List Ls} {k : Nat} {q : Ls} (h : bs[k]? = some q) : sumL (bs.take (k + 1)) = sumL (bs.take k) + q.t.size := by
  rw [List.take_add_one, h, sumL_app]; simp [sumL]
theorem sumL_le (bs : List Ls) (k : Nat) : sumL (bs.take k) ≤ sumL bs := by
  conv => rhs; rw [← List.take_append_drop k bs, sumL_app]
  omega


set_option maxHeartbeats 400000 in
theorem szLease_any (q : Ls) (l : Int) (h0 : 0 ≤ l) (h1 : l ≤ 1048576) (h9 : q.t.size ≤ 9223372036854775807) (w : World) :
    Calls Tryz.prog 60 #[.agg #[.bool q.a.s, .int .i64 q.a.H.toInt, .int .i64 q.a.L.toInt, .string q.t, .int .i64 q.k, .int .i64 q.u], .int .i64 l] w fun e w' => e = .returned (.int .i64 (szO l q.t.size)) ∧ Below w.heap.size w w' := by
  by_cases hd : l - (q.t.size : Int) < 0
  · rw [szO_yes hd]
    go_enter Tryz.func60, Tryz.ntmps60
    go_wp2
    go_ret
    exact ⟨rfl, (Below.refl _ _).alloc (Nat.le_refl _) _⟩
  · rw [szO_no hd]
    have hd2 : decide (l - (q.t.size : Int) < 0) = false := decide_eq_false hd
    go_enter Tryz.func60, Tryz.ntmps60
    go_wp2
    go_ret
    exact ⟨rfl, (Below.refl _ _).alloc (Nat.le_refl _) _⟩

set_option maxHeartbeats 1000000 in
theorem szLeaseS_any (a : Option Addr) (n cap : Nat) (bs : List Ls) (l : Int) (h0 : 0 ≤ l) (h1 : l ≤ 1048576) (w : World) (hn : n = bs.length) (hB : RowG KLs w a bs) (h9 : n ≤ 9223372036854775807) (hst : ∀ q ∈ bs, q.t.size ≤ 9223372036854775807) :
    Calls Tryz.prog 33 #[.slice a n cap, .int .i64 l] w fun e w' => e = .returned (.int .i64 (szB n (sumL bs) l)) ∧ Below w.heap.size w w' := by
  have HB := hidP hB
  have HN := hidP hn
  have HST := hidP hst
  clear hB hn hst
  by_cases hnl : l < (n : Int)
  · rw [szB_no (by omega)]
    have d1 : decide (l - (n : Int) < 0) = true := decide_eq_true (by omega)
    go_enter Tryz.func33, Tryz.ntmps33
    go_wp2
    go_ret
    exact ⟨rfl, Below.refl _ _⟩
  · have d1 : decide (l - (n : Int) < 0) = false := decide_eq_false (by omega)
    have d2 : ¬ (l - (n : Int) < 0) := by omega
    go_enter Tryz.func33, Tryz.ntmps33
    go_wp2_with fail
    go_loopw [1, 5] (fun t1 t5 wr => ∃ (k : Nat) (z : Int), k ≤ n ∧ t5 = .int .i64 k ∧ t1 = .int .i64 z ∧ z = l - n - sumL (bs.take k) ∧ 0 ≤ z ∧ Below w.heap.size w wr) (fun _ t5 _ => n - (intOf t5).toNat)
    case atStart => exact ⟨0, l - n, Nat.zero_le _, rfl, rfl, by simp [sumL], by omega, Below.refl _ _⟩
    case round =>
      obtain ⟨k, z, hk, rfl, rfl, hz, hz0, hbel⟩ := hrel
      by_cases hlt : k < n
      · obtain ⟨p, o, q, rfl, hp, hq, c0, c1, c2, c3, c4, c5⟩ := rowLs HB.out k (by rw [← HN.out]; exact hlt)
        have d0 := (hbel.cell hp).trans c0
        have d1 := (hbel.cell hp).trans c1
        have d2 := (hbel.cell hp).trans c2
        have d3 := (hbel.cell hp).trans c3
        have d4 := (hbel.cell hp).trans c4
        have d5 := (hbel.cell hp).trans c5
        have HBel := hidP hbel
        have HNx := hidP (sumL_next hq)
        have HLe := hidP (sumL_le bs (k + 1))
        have hz1 : z ≤ 1048576 := by omega
        have HZ := hidP hz
        have HS := hidP (szLease_any q z hz0 hz1 (HST.out q (List.mem_of_getElem? hq)))
        clear c0 c1 c2 c3 c4 c5 hq hbel hz
        by_cases hd : z - (q.t.size : Int) < 0
        · rw [szO_yes hd] at HS
          have HF : Hid (¬ ((n : Int) + (sumL bs : Int) ≤ l)) := hidP (by have := HZ.out; have := HNx.out; have := HLe.out; omega)
          go_wp2_with fail
          refine (HS.out _).mono ?_
          rintro e w2 ⟨rfl, hb2⟩
          have HB2 := hidP (HBel.out.trans (hb2.mono HBel.out.size))
          clear hb2 HBel d0 d1 d2 d3 d4 d5
          go_wp2_with fail
          go_ret
          exact ⟨ret_i (szB_no (by have := HF.out; omega)).symm, HB2.out⟩
        · rw [szO_no hd] at HS
          have hd2 : decide (z - (q.t.size : Int) < 0) = false := decide_eq_false hd
          go_wp2_with fail
          refine (HS.out _).mono ?_
          rintro e w2 ⟨rfl, hb2⟩
          have HB2 := hidP (HBel.out.trans (hb2.mono HBel.out.size))
          clear hb2 HBel d0 d1 d2 d3 d4 d5
          go_wp2_with fail
          go_roundw
          case rel => exact ⟨k + 1, z - (q.t.size : Int), by omega, by go_num, rfl, by have := HZ.out; have := HNx.out; omega, by omega, HB2.out⟩
          case measure => simp [intOf]; omega
      · have hkn : k = n := by omega
        have HF : Hid ((n : Int) + (sumL bs : Int) ≤ l ∧ z = l - n - sumL bs) := by
          rw [List.take_of_length_le (by have := HN.out; omega)] at hz
          exact hidP ⟨by omega, hz⟩
        have HBel := hidP hbel
        clear hbel hz
        go_wp2_with fail
        go_ret
        exact ⟨ret_i (by rw [szB_yes HF.out.1, ← HF.out.2]), HBel.out⟩


/-- How much of a law's room a book takes. -/
def totB (ls : List Ls) : Int := ls.length + sumL ls
theorem box3B (w : World) (t : TypeId) (u v x : Value) : (w.alloc (.cells #[u, v, x] t)).cell? ⟨w.heap.size, 0, none⟩ = some u ∧ (w.alloc (.cells #[u, v, x] t)).cell? ⟨w.heap.size, 1, none⟩ = some v ∧ (w.alloc (.cells #[u, v, x] t)).cell? ⟨w.heap.size, 2, none⟩ = some x := ⟨by simp [go_sem], by simp [go_sem], by simp [go_sem]⟩

set_option maxHeartbeats 1000000 in
theorem szBook_at (a : Option Addr) (n c : Nat) (T N : Int) (ls : List Ls) (l : Int) (h0 : 0 ≤ l) (h1 : l ≤ 1048576) (w : World) (hn : n = ls.length) (hP : RowG KLs w a ls) (h9 : n ≤ 9223372036854775807) (hst : ∀ q ∈ ls, q.t.size ≤ 9223372036854775807) :
    Calls Tryz.prog 14 #[.agg #[.slice a n c, .int .i64 T, .int .i64 N], .int .i64 l] w fun e w' => e = .returned (.int .i64 (szB ls.length (sumL ls) l)) ∧ Below w.heap.size w w' := by
  rw [← hn]
  have HS := hidP (fun W h => szLeaseS_any a n c ls l h0 h1 W hn (hP.later h) h9 hst)
  clear hP hn hst
  by_cases ht : (n : Int) + (sumL ls : Int) ≤ l
  · rw [szB_yes ht] at HS
    rw [szB_yes ht]
    have hz2 : decide (l - (n : Int) - (sumL ls : Int) < 0) = false := decide_eq_false (by omega)
    generalize he : (l - (n : Int) - (sumL ls : Int)) = z at *
    have hz3 : ¬ z < 0 := by omega
    have HE := hidP he
    clear he
    go_enter Tryz.func14, Tryz.ntmps14
    go_wp2_with fail
    refine (HS.out _ (alloc_below w _)).mono ?_
    rintro e w2 ⟨rfl, hb2⟩
    have HB2 := hidP hb2
    clear hb2
    go_wp2_with fail
    go_ret
    exact ⟨ret_i (by have := HE.out; omega), (alloc_below w _).trans (HB2.out.mono (alloc_below w _).size)⟩
  · rw [szB_no ht] at HS
    rw [szB_no ht]
    go_enter Tryz.func14, Tryz.ntmps14
    go_wp2_with fail
    refine (HS.out _ (alloc_below w _)).mono ?_
    rintro e w2 ⟨rfl, hb2⟩
    have HB2 := hidP hb2
    clear hb2
    go_wp2_with fail
    go_ret
    exact ⟨rfl, (alloc_below w _).trans (HB2.out.mono (alloc_below w _).size)⟩

set_option maxHeartbeats 1000000 in
theorem toBook_any (a : Option Addr) (n c : Nat) (T N : Int) (ls : List Ls) (w : World) (hn : n = ls.length) (hP : RowG KLs w a ls) (hl : n ≤ 1048576) :
    Calls Tryz.prog 21 #[.agg #[.slice a n c, .int .i64 T, .int .i64 N]] w fun e w' => ∃ g, e = .returned (.agg #[.slice (some ⟨g, 0, none⟩) n n, .int .i64 T, .int .i64 N]) ∧ OwnG KLs 71 w' w.heap.size (.slice (some ⟨g, 0, none⟩) n n) ls ∧ Below w.heap.size w w' := by
  have HTP := hidP (fun W h => toLeaseS_any a n c ls W hn (hP.later h) hl)
  clear hP hn
  go_enter Tryz.func21, Tryz.ntmps21
  go_wp2_with fail
  refine (HTP.out _ ?_).mono ?_
  · repeat (first | with_reducible exact Below.refl _ _ | (with_reducible refine Below.drew ?_) | (with_reducible refine Below.alloc ?_ ?_ _; rotate_left; (focus (first | omega | (simp; omega) | (simp; done)))) | (with_reducible refine Below.setCell ?_ ?_ _; rotate_left; (focus (first | omega | (simp; omega) | (simp; done)))))
  rintro e w1 ⟨g, rfl, og, hb1⟩
  have hz1 := hb1.size
  try simp at hz1
  have hgl := OwnG.lt og g rfl
  try simp at hgl
  have f10 : w.heap.size < w1.heap.size := by omega
  have f11 : w.heap.size + 1 < w1.heap.size := by omega
  have f12 : w.heap.size + 2 < w1.heap.size := by omega
  refine olds_k (w.heap.size + 3) hb1 ?_ ?_
  · first | omega | (simp; omega) | (simp; done)
  intro hc1 hf1
  have OG := hidP og
  clear og
  go_wp2_with fail
  refine bodyPost_ret (v := .agg #[.slice (some ⟨g, 0, none⟩) n n, .int .i64 T, .int .i64 N]) (by simp [results, Tryz.results21, go_sem, hc1]) rfl ⟨g, rfl, ?_, ?_⟩
  · have ne : ∀ x : Nat, x < w.heap.size + 3 → ∀ k, (Value.slice (some ⟨g, 0, none⟩) n n).ownBlock = some k → some x ≠ some k := fun x hx k hk e => by simp [Value.ownBlock] at hk e; omega
    refine OwnG.mono (B := w.heap.size + 3) ?_ (by omega)
    iterate 6 (with_reducible refine OwnG.grown ?_ (grown_cellG _ _ _ _) ?_; rotate_left; (focus (exact ne _ (by omega))))
    with_reducible exact OG.out.mono (by first | (simp; done) | (simp; omega))
  · repeat (first | with_reducible exact Below.refl _ _ | (with_reducible refine Below.drew ?_) | (with_reducible refine Below.alloc ?_ ?_ _; rotate_left; (focus (first | omega | (simp; omega) | (simp; done)))) | (with_reducible refine Below.setCell ?_ ?_ _; rotate_left; (focus (first | omega | (simp; omega) | (simp; done)))) | (with_reducible refine Below.trans ?_ (hb1.mono ?_); rotate_left; (focus (first | omega | (simp; omega) | (simp; done)))))

set_option maxHeartbeats 1000000 in
theorem eqBook_same (a a' : Option Addr) (n c c' : Nat) (T N : Int) (ls : List Ls) (w : World) (hn : n = ls.length) (hP : RowG KLs w a ls) (hP' : RowG KLs w a' ls) (hl : n ≤ 9000000000) :
    Calls Tryz.prog 28 #[.agg #[.slice a n c, .int .i64 T, .int .i64 N], .agg #[.slice a' n c', .int .i64 T, .int .i64 N]] w fun e w' => e = .returned (.bool true) ∧ Below w.heap.size w w' := by
  have HTP := hidP (fun W h => eqLeaseS_same a a' n c c' ls W hn (hP.later h) (hP'.later h) hl)
  clear hP hP' hn
  go_enter Tryz.func28, Tryz.ntmps28
  go_wp2_with fail
  refine (HTP.out _ ?_).mono ?_
  · repeat (first | with_reducible exact Below.refl _ _ | (with_reducible refine Below.drew ?_) | (with_reducible refine Below.alloc ?_ ?_ _; rotate_left; (focus (first | omega | (simp; omega) | (simp; done)))) | (with_reducible refine Below.setCell ?_ ?_ _; rotate_left; (focus (first | omega | (simp; omega) | (simp; done)))))
  rintro e w1 ⟨rfl, hb1⟩
  have hz1 := hb1.size
  try simp at hz1
  have f10 : w.heap.size < w1.heap.size := by omega
  have f11 : w.heap.size + 1 < w1.heap.size := by omega
  refine olds_k (w.heap.size + 2) hb1 ?_ ?_
  · first | omega | (simp; omega) | (simp; done)
  intro hc1 hf1
  go_wp2_with fail
  go_ret
  refine ⟨rfl, ?_⟩
  repeat (first | with_reducible exact Below.refl _ _ | (with_reducible refine Below.drew ?_) | (with_reducible refine Below.alloc ?_ ?_ _; rotate_left; (focus (first | omega | (simp; omega) | (simp; done)))) | (with_reducible refine Below.setCell ?_ ?_ _; rotate_left; (focus (first | omega | (simp; omega) | (simp; done)))) | (with_reducible refine Below.trans ?_ (hb1.mono ?_); rotate_left; (focus (first | omega | (simp; omega) | (simp; done)))))

end Go.Proofs.YtplocbpngikohaaGreat
namespace Go.Proofs.YtplocbpngikohaaGreat
open Go.ChangeShapes Go.WideShapes Go.ChangeAt Go.RowKit Go.Joins Go.Deep

theorem cell_set1 {w : World} {b o x o' : Nat} {u v : Value} (h : w.cell? ⟨b, o, none⟩ = some u) (hne : b ≠ x) : (w.setCell ⟨x, o', none⟩ v).cell? ⟨b, o, none⟩ = some u := by
  rw [World.cell?_of_block (w := w) ((grown_cellG w x o' v).block b (World.block_lt_of_cell? w _ h) (fun e => hne (by simpa using e)))]
  exact h
theorem frz_set1 {w : World} {b o x o' : Nat} {v : Value} (h : w.frozen? ⟨b, o, none⟩ = false) : (w.setCell ⟨x, o', none⟩ v).frozen? ⟨b, o, none⟩ = false := by
  simpa [go_sem] using h
theorem OwnG.ne_of {α : Type} {K : Kd α} {t : TypeId} {w : World} {B x : Nat} {v : Value} {ps : List α} (h : OwnG K t w B v ps) (hx : x < B) : ∀ k, v.ownBlock = some k → some x ≠ some k := fun k hk e => by
  have := (OwnG.lt h k hk).1
  simp at e; omega
theorem bx8 (w : World) (t : TypeId) (v0 v1 v2 v3 v4 v5 v6 v7 : Value) : (w.alloc (.cells #[v0, v1, v2, v3, v4, v5, v6, v7] t)).cell? ⟨w.heap.size, 0, none⟩ = some v0 ∧ (w.alloc (.cells #[v0, v1, v2, v3, v4, v5, v6, v7] t)).cell? ⟨w.heap.size, 1, none⟩ = some v1 ∧ (w.alloc (.cells #[v0, v1, v2, v3, v4, v5, v6, v7] t)).cell? ⟨w.heap.size, 2, none⟩ = some v2 ∧ (w.alloc (.cells #[v0, v1, v2, v3, v4, v5, v6, v7] t)).cell? ⟨w.heap.size, 3, none⟩ = some v3 ∧ (w.alloc (.cells #[v0, v1, v2, v3, v4, v5, v6, v7] t)).cell? ⟨w.heap.size, 4, none⟩ = some v4 ∧ (w.alloc (.cells #[v0, v1, v2, v3, v4, v5, v6, v7] t)).cell? ⟨w.heap.size, 5, none⟩ = some v5 ∧ (w.alloc (.cells #[v0, v1, v2, v3, v4, v5, v6, v7] t)).cell? ⟨w.heap.size, 6, none⟩ = some v6 ∧ (w.alloc (.cells #[v0, v1, v2, v3, v4, v5, v6, v7] t)).cell? ⟨w.heap.size, 7, none⟩ = some v7 := ⟨by simp [go_sem], by simp [go_sem], by simp [go_sem], by simp [go_sem], by simp [go_sem], by simp [go_sem], by simp [go_sem], by simp [go_sem]⟩
/-- How much of a law's room a state takes. -/
def totS (ps : List Pl) (bs : List Bk) (ls : List Ls) (ss : List Ss) : Int := totP ps bs + totB ls + totD ss
theorem totB_nn (ls : List Ls) : 0 ≤ totB ls := by unfold totB; omega
theorem totD_nn (ss : List Ss) : 0 ≤ totD ss := by unfold totD; omega
theorem totP_nn (ps : List Pl) (bs : List Bk) : 0 ≤ totP ps bs := by unfold totP; omega

set_option maxRecDepth 10000 in
set_option maxHeartbeats 2000000 in
theorem szState_any (ap : Option Addr) (np cp : Nat) (ab : Option Addr) (nb cb : Nat) (al : Option Addr) (nl cl : Nat) (T N : Int) (aS : Option Addr) (ns cs : Nat) (X C : Int) (ps : List Pl) (bs : List Bk) (ls : List Ls) (ss : List Ss) (w : World) (hnp : np = ps.length) (hnb : nb = bs.length) (hnl : nl = ls.length) (hns : ns = ss.length) (hK : RowG KBk w ab bs) (hL : RowG KLs w al ls) (hS : RowG KSs w aS ss) (h9p : np ≤ 9223372036854775807) (h9b : nb ≤ 9223372036854775807) (h9l : nl ≤ 9223372036854775807) (h9s : ns ≤ 9223372036854775807) (hsb : ∀ q ∈ bs, q.t.size ≤ 9223372036854775807) (hsl : ∀ q ∈ ls, q.t.size ≤ 9223372036854775807) (hss : ∀ q ∈ ss, q.t.size ≤ 9223372036854775807) :
    Calls Tryz.prog 5 #[.agg #[.slice ap np cp, .slice ab nb cb, .slice al nl cl, .int .i64 T, .int .i64 N, .slice aS ns cs, .int .i64 X, .int .i64 C], .int .i64 1048576] w fun e w' => e = .returned (.int .i64 (szT (totS ps bs ls ss))) ∧ Below w.heap.size w w' := by
  have HP := hidP (fun W h => szPlan_any ap np cp ab nb cb ps bs W hnp hnb (hK.later h) h9p h9b hsb)
  have HB := hidP (fun l h0 h1 W h => szBook_at al nl cl T N ls l h0 h1 W hnl (hL.later h) h9l hsl)
  have HD := hidP (fun l h0 h1 W h => szDesk_at aS ns cs X ss l h0 h1 W hns (hS.later h) h9s hss)
  have e1 : totB ls = (ls.length : Int) + (sumL ls : Int) := rfl
  have e2 : totD ss = (ss.length : Int) + (sumS ss : Int) := rfl
  have n1 := totP_nn ps bs
  unfold totS
  clear hK hL hS hnp hnb hnl hns hsb hsl hss
  by_cases ht : totP ps bs ≤ 1048576
  · rw [szT_yes ht] at HP
    have d1 : decide (1048576 - totP ps bs < 0) = false := decide_eq_false (by omega)
    by_cases hb : (ls.length : Int) + (sumL ls : Int) ≤ 1048576 - totP ps bs
    · have HB1 := hidP (fun W h => HB.out (1048576 - totP ps bs) (by omega) (by omega) W h)
      rw [szB_yes hb] at HB1
      have d2 : decide (1048576 - totP ps bs - (ls.length : Int) - (sumL ls : Int) < 0) = false := decide_eq_false (by omega)
      have HD1 := hidP (fun W h => HD.out (1048576 - totP ps bs - (ls.length : Int) - (sumL ls : Int)) (by omega) (by omega) W h)
      have n3 : ¬ (1048576 - totP ps bs < 0) := by omega
      have n4 : ¬ (1048576 - totP ps bs - (ls.length : Int) - (sumL ls : Int) < 0) := by omega
      by_cases hd : (ss.length : Int) + (sumS ss : Int) ≤ 1048576 - totP ps bs - (ls.length : Int) - (sumL ls : Int)
      · rw [szB_yes hd] at HD1
        rw [szT_yes (by omega)]
        have d3 : decide (1048576 - totP ps bs - (ls.length : Int) - (sumL ls : Int) - (ss.length : Int) - (sumS ss : Int) < 0) = false := decide_eq_false (by omega)
        have n5 : ¬ (1048576 - totP ps bs - (ls.length : Int) - (sumL ls : Int) - (ss.length : Int) - (sumS ss : Int) < 0) := by omega
        have HE := hidP (show 1048576 - totP ps bs - (ls.length : Int) - (sumL ls : Int) - (ss.length : Int) - (sumS ss : Int) = 1048576 - (totP ps bs + totB ls + totD ss) by omega)
        generalize 1048576 - totP ps bs - (ls.length : Int) - (sumL ls : Int) - (ss.length : Int) - (sumS ss : Int) = z3 at *
        generalize 1048576 - totP ps bs - (ls.length : Int) - (sumL ls : Int) = z2 at *
        generalize 1048576 - totP ps bs = z1 at *
        clear HB HD
        go_enter Tryz.func5, Tryz.ntmps5
        go_wp2_with fail
        obtain ⟨bx0_W1, bx1_W1, bx2_W1, bx3_W1, bx4_W1, bx5_W1, bx6_W1, bx7_W1⟩ := bx8 w 33 (.slice ap np cp) (.slice ab nb cb) (.slice al nl cl) (.int .i64 T) (.int .i64 N) (.slice aS ns cs) (.int .i64 X) (.int .i64 C)
        have bxF_W1 : ∀ o, (w.alloc (.cells #[.slice ap np cp, .slice ab nb cb, .slice al nl cl, .int .i64 T, .int .i64 N, .slice aS ns cs, .int .i64 X, .int .i64 C] 33)).frozen? ⟨w.heap.size, o, none⟩ = false := fun o => by simp [go_sem]
        have bxL_W1 : w.heap.size < (w.alloc (.cells #[.slice ap np cp, .slice ab nb cb, .slice al nl cl, .int .i64 T, .int .i64 N, .slice aS ns cs, .int .i64 X, .int .i64 C] 33)).heap.size := by simp
        have ab_W1 := alloc_below w (.cells #[.slice ap np cp, .slice ab nb cb, .slice al nl cl, .int .i64 T, .int .i64 N, .slice aS ns cs, .int .i64 X, .int .i64 C] 33)
        have as_W1 : Hid ((w.alloc (.cells #[.slice ap np cp, .slice ab nb cb, .slice al nl cl, .int .i64 T, .int .i64 N, .slice aS ns cs, .int .i64 X, .int .i64 C] 33)).heap.size = w.heap.size + 1) := hidP (by simp)
        generalize w.alloc (.cells #[.slice ap np cp, .slice ab nb cb, .slice al nl cl, .int .i64 T, .int .i64 N, .slice aS ns cs, .int .i64 X, .int .i64 C] 33) = W1 at *
        have acc_W1 := hidP (ab_W1)
        have sz_W1 : Hid (w.heap.size ≤ W1.heap.size) := hidP ab_W1.size
        clear ab_W1 
        refine (HP.out _ acc_W1.out).mono ?_
        rintro e u0 ⟨rfl, hb0⟩
        have bx0_u0 := (hb0.cell bxL_W1).trans bx0_W1
        have bx1_u0 := (hb0.cell bxL_W1).trans bx1_W1
        have bx2_u0 := (hb0.cell bxL_W1).trans bx2_W1
        have bx3_u0 := (hb0.cell bxL_W1).trans bx3_W1
        have bx4_u0 := (hb0.cell bxL_W1).trans bx4_W1
        have bx5_u0 := (hb0.cell bxL_W1).trans bx5_W1
        have bx6_u0 := (hb0.cell bxL_W1).trans bx6_W1
        have bx7_u0 := (hb0.cell bxL_W1).trans bx7_W1
        have bxF_u0 : ∀ o, u0.frozen? ⟨w.heap.size, o, none⟩ = false := fun o => (hb0.frozen bxL_W1).trans (bxF_W1 o)
        have bxL_u0 : w.heap.size < u0.heap.size := Nat.lt_of_lt_of_le bxL_W1 hb0.size
        have acc_u0 := hidP (acc_W1.out.trans (hb0.mono acc_W1.out.size))
        have sz_u0 : Hid (W1.heap.size ≤ u0.heap.size) := hidP hb0.size
        clear hb0 bx0_W1 bx1_W1 bx2_W1 bx3_W1 bx4_W1 bx5_W1 bx6_W1 bx7_W1 bxF_W1 bxL_W1 acc_W1
        go_wp2_with fail
        refine (HB1.out _ acc_u0.out).mono ?_
        rintro e u1 ⟨rfl, hb1⟩
        have bx0_u1 := (hb1.cell bxL_u0).trans bx0_u0
        have bx1_u1 := (hb1.cell bxL_u0).trans bx1_u0
        have bx2_u1 := (hb1.cell bxL_u0).trans bx2_u0
        have bx3_u1 := (hb1.cell bxL_u0).trans bx3_u0
        have bx4_u1 := (hb1.cell bxL_u0).trans bx4_u0
        have bx5_u1 := (hb1.cell bxL_u0).trans bx5_u0
        have bx6_u1 := (hb1.cell bxL_u0).trans bx6_u0
        have bx7_u1 := (hb1.cell bxL_u0).trans bx7_u0
        have bxF_u1 : ∀ o, u1.frozen? ⟨w.heap.size, o, none⟩ = false := fun o => (hb1.frozen bxL_u0).trans (bxF_u0 o)
        have bxL_u1 : w.heap.size < u1.heap.size := Nat.lt_of_lt_of_le bxL_u0 hb1.size
        have acc_u1 := hidP (acc_u0.out.trans (hb1.mono acc_u0.out.size))
        have sz_u1 : Hid (u0.heap.size ≤ u1.heap.size) := hidP hb1.size
        clear hb1 bx0_u0 bx1_u0 bx2_u0 bx3_u0 bx4_u0 bx5_u0 bx6_u0 bx7_u0 bxF_u0 bxL_u0 acc_u0
        go_wp2_with fail
        refine (HD1.out _ acc_u1.out).mono ?_
        rintro e u2 ⟨rfl, hb2⟩
        have bx0_u2 := (hb2.cell bxL_u1).trans bx0_u1
        have bx1_u2 := (hb2.cell bxL_u1).trans bx1_u1
        have bx2_u2 := (hb2.cell bxL_u1).trans bx2_u1
        have bx3_u2 := (hb2.cell bxL_u1).trans bx3_u1
        have bx4_u2 := (hb2.cell bxL_u1).trans bx4_u1
        have bx5_u2 := (hb2.cell bxL_u1).trans bx5_u1
        have bx6_u2 := (hb2.cell bxL_u1).trans bx6_u1
        have bx7_u2 := (hb2.cell bxL_u1).trans bx7_u1
        have bxF_u2 : ∀ o, u2.frozen? ⟨w.heap.size, o, none⟩ = false := fun o => (hb2.frozen bxL_u1).trans (bxF_u1 o)
        have bxL_u2 : w.heap.size < u2.heap.size := Nat.lt_of_lt_of_le bxL_u1 hb2.size
        have acc_u2 := hidP (acc_u1.out.trans (hb2.mono acc_u1.out.size))
        have sz_u2 : Hid (u1.heap.size ≤ u2.heap.size) := hidP hb2.size
        clear hb2 bx0_u1 bx1_u1 bx2_u1 bx3_u1 bx4_u1 bx5_u1 bx6_u1 bx7_u1 bxF_u1 bxL_u1 acc_u1
        go_wp2_with fail
        go_ret
        exact ⟨ret_i HE.out, acc_u2.out⟩
      · rw [szB_no hd] at HD1
        rw [szT_no (by omega)]
        generalize 1048576 - totP ps bs - (ls.length : Int) - (sumL ls : Int) = z2 at *
        generalize 1048576 - totP ps bs = z1 at *
        clear HB HD
        go_enter Tryz.func5, Tryz.ntmps5
        go_wp2_with fail
        obtain ⟨bx0_W1, bx1_W1, bx2_W1, bx3_W1, bx4_W1, bx5_W1, bx6_W1, bx7_W1⟩ := bx8 w 33 (.slice ap np cp) (.slice ab nb cb) (.slice al nl cl) (.int .i64 T) (.int .i64 N) (.slice aS ns cs) (.int .i64 X) (.int .i64 C)
        have bxF_W1 : ∀ o, (w.alloc (.cells #[.slice ap np cp, .slice ab nb cb, .slice al nl cl, .int .i64 T, .int .i64 N, .slice aS ns cs, .int .i64 X, .int .i64 C] 33)).frozen? ⟨w.heap.size, o, none⟩ = false := fun o => by simp [go_sem]
        have bxL_W1 : w.heap.size < (w.alloc (.cells #[.slice ap np cp, .slice ab nb cb, .slice al nl cl, .int .i64 T, .int .i64 N, .slice aS ns cs, .int .i64 X, .int .i64 C] 33)).heap.size := by simp
        have ab_W1 := alloc_below w (.cells #[.slice ap np cp, .slice ab nb cb, .slice al nl cl, .int .i64 T, .int .i64 N, .slice aS ns cs, .int .i64 X, .int .i64 C] 33)
        have as_W1 : Hid ((w.alloc (.cells #[.slice ap np cp, .slice ab nb cb, .slice al nl cl, .int .i64 T, .int .i64 N, .slice aS ns cs, .int .i64 X, .int .i64 C] 33)).heap.size = w.heap.size + 1) := hidP (by simp)
        generalize w.alloc (.cells #[.slice ap np cp, .slice ab nb cb, .slice al nl cl, .int .i64 T, .int .i64 N, .slice aS ns cs, .int .i64 X, .int .i64 C] 33) = W1 at *
        have acc_W1 := hidP (ab_W1)
        have sz_W1 : Hid (w.heap.size ≤ W1.heap.size) := hidP ab_W1.size
        clear ab_W1 
        refine (HP.out _ acc_W1.out).mono ?_
        rintro e u0 ⟨rfl, hb0⟩
        have bx0_u0 := (hb0.cell bxL_W1).trans bx0_W1
        have bx1_u0 := (hb0.cell bxL_W1).trans bx1_W1
        have bx2_u0 := (hb0.cell bxL_W1).trans bx2_W1
        have bx3_u0 := (hb0.cell bxL_W1).trans bx3_W1
        have bx4_u0 := (hb0.cell bxL_W1).trans bx4_W1
        have bx5_u0 := (hb0.cell bxL_W1).trans bx5_W1
        have bx6_u0 := (hb0.cell bxL_W1).trans bx6_W1
        have bx7_u0 := (hb0.cell bxL_W1).trans bx7_W1
        have bxF_u0 : ∀ o, u0.frozen? ⟨w.heap.size, o, none⟩ = false := fun o => (hb0.frozen bxL_W1).trans (bxF_W1 o)
        have bxL_u0 : w.heap.size < u0.heap.size := Nat.lt_of_lt_of_le bxL_W1 hb0.size
        have acc_u0 := hidP (acc_W1.out.trans (hb0.mono acc_W1.out.size))
        have sz_u0 : Hid (W1.heap.size ≤ u0.heap.size) := hidP hb0.size
        clear hb0 bx0_W1 bx1_W1 bx2_W1 bx3_W1 bx4_W1 bx5_W1 bx6_W1 bx7_W1 bxF_W1 bxL_W1 acc_W1
        go_wp2_with fail
        refine (HB1.out _ acc_u0.out).mono ?_
        rintro e u1 ⟨rfl, hb1⟩
        have bx0_u1 := (hb1.cell bxL_u0).trans bx0_u0
        have bx1_u1 := (hb1.cell bxL_u0).trans bx1_u0
        have bx2_u1 := (hb1.cell bxL_u0).trans bx2_u0
        have bx3_u1 := (hb1.cell bxL_u0).trans bx3_u0
        have bx4_u1 := (hb1.cell bxL_u0).trans bx4_u0
        have bx5_u1 := (hb1.cell bxL_u0).trans bx5_u0
        have bx6_u1 := (hb1.cell bxL_u0).trans bx6_u0
        have bx7_u1 := (hb1.cell bxL_u0).trans bx7_u0
        have bxF_u1 : ∀ o, u1.frozen? ⟨w.heap.size, o, none⟩ = false := fun o => (hb1.frozen bxL_u0).trans (bxF_u0 o)
        have bxL_u1 : w.heap.size < u1.heap.size := Nat.lt_of_lt_of_le bxL_u0 hb1.size
        have acc_u1 := hidP (acc_u0.out.trans (hb1.mono acc_u0.out.size))
        have sz_u1 : Hid (u0.heap.size ≤ u1.heap.size) := hidP hb1.size
        clear hb1 bx0_u0 bx1_u0 bx2_u0 bx3_u0 bx4_u0 bx5_u0 bx6_u0 bx7_u0 bxF_u0 bxL_u0 acc_u0
        go_wp2_with fail
        refine (HD1.out _ acc_u1.out).mono ?_
        rintro e u2 ⟨rfl, hb2⟩
        have bx0_u2 := (hb2.cell bxL_u1).trans bx0_u1
        have bx1_u2 := (hb2.cell bxL_u1).trans bx1_u1
        have bx2_u2 := (hb2.cell bxL_u1).trans bx2_u1
        have bx3_u2 := (hb2.cell bxL_u1).trans bx3_u1
        have bx4_u2 := (hb2.cell bxL_u1).trans bx4_u1
        have bx5_u2 := (hb2.cell bxL_u1).trans bx5_u1
        have bx6_u2 := (hb2.cell bxL_u1).trans bx6_u1
        have bx7_u2 := (hb2.cell bxL_u1).trans bx7_u1
        have bxF_u2 : ∀ o, u2.frozen? ⟨w.heap.size, o, none⟩ = false := fun o => (hb2.frozen bxL_u1).trans (bxF_u1 o)
        have bxL_u2 : w.heap.size < u2.heap.size := Nat.lt_of_lt_of_le bxL_u1 hb2.size
        have acc_u2 := hidP (acc_u1.out.trans (hb2.mono acc_u1.out.size))
        have sz_u2 : Hid (u1.heap.size ≤ u2.heap.size) := hidP hb2.size
        clear hb2 bx0_u1 bx1_u1 bx2_u1 bx3_u1 bx4_u1 bx5_u1 bx6_u1 bx7_u1 bxF_u1 bxL_u1 acc_u1
        go_wp2_with fail
        go_ret
        exact ⟨rfl, acc_u2.out⟩
    · have HB1 := hidP (fun W h => HB.out (1048576 - totP ps bs) (by omega) (by omega) W h)
      rw [szB_no hb] at HB1
      have n2 := totD_nn ss
      rw [szT_no (by omega)]
      have n3 : ¬ (1048576 - totP ps bs < 0) := by omega
      generalize 1048576 - totP ps bs = z1 at *
      clear HB HD
      go_enter Tryz.func5, Tryz.ntmps5
      go_wp2_with fail
      obtain ⟨bx0_W1, bx1_W1, bx2_W1, bx3_W1, bx4_W1, bx5_W1, bx6_W1, bx7_W1⟩ := bx8 w 33 (.slice ap np cp) (.slice ab nb cb) (.slice al nl cl) (.int .i64 T) (.int .i64 N) (.slice aS ns cs) (.int .i64 X) (.int .i64 C)
      have bxF_W1 : ∀ o, (w.alloc (.cells #[.slice ap np cp, .slice ab nb cb, .slice al nl cl, .int .i64 T, .int .i64 N, .slice aS ns cs, .int .i64 X, .int .i64 C] 33)).frozen? ⟨w.heap.size, o, none⟩ = false := fun o => by simp [go_sem]
      have bxL_W1 : w.heap.size < (w.alloc (.cells #[.slice ap np cp, .slice ab nb cb, .slice al nl cl, .int .i64 T, .int .i64 N, .slice aS ns cs, .int .i64 X, .int .i64 C] 33)).heap.size := by simp
      have ab_W1 := alloc_below w (.cells #[.slice ap np cp, .slice ab nb cb, .slice al nl cl, .int .i64 T, .int .i64 N, .slice aS ns cs, .int .i64 X, .int .i64 C] 33)
      have as_W1 : Hid ((w.alloc (.cells #[.slice ap np cp, .slice ab nb cb, .slice al nl cl, .int .i64 T, .int .i64 N, .slice aS ns cs, .int .i64 X, .int .i64 C] 33)).heap.size = w.heap.size + 1) := hidP (by simp)
      generalize w.alloc (.cells #[.slice ap np cp, .slice ab nb cb, .slice al nl cl, .int .i64 T, .int .i64 N, .slice aS ns cs, .int .i64 X, .int .i64 C] 33) = W1 at *
      have acc_W1 := hidP (ab_W1)
      have sz_W1 : Hid (w.heap.size ≤ W1.heap.size) := hidP ab_W1.size
      clear ab_W1 
      refine (HP.out _ acc_W1.out).mono ?_
      rintro e u0 ⟨rfl, hb0⟩
      have bx0_u0 := (hb0.cell bxL_W1).trans bx0_W1
      have bx1_u0 := (hb0.cell bxL_W1).trans bx1_W1
      have bx2_u0 := (hb0.cell bxL_W1).trans bx2_W1
      have bx3_u0 := (hb0.cell bxL_W1).trans bx3_W1
      have bx4_u0 := (hb0.cell bxL_W1).trans bx4_W1
      have bx5_u0 := (hb0.cell bxL_W1).trans bx5_W1
      have bx6_u0 := (hb0.cell bxL_W1).trans bx6_W1
      have bx7_u0 := (hb0.cell bxL_W1).trans bx7_W1
      have bxF_u0 : ∀ o, u0.frozen? ⟨w.heap.size, o, none⟩ = false := fun o => (hb0.frozen bxL_W1).trans (bxF_W1 o)
      have bxL_u0 : w.heap.size < u0.heap.size := Nat.lt_of_lt_of_le bxL_W1 hb0.size
      have acc_u0 := hidP (acc_W1.out.trans (hb0.mono acc_W1.out.size))
      have sz_u0 : Hid (W1.heap.size ≤ u0.heap.size) := hidP hb0.size
      clear hb0 bx0_W1 bx1_W1 bx2_W1 bx3_W1 bx4_W1 bx5_W1 bx6_W1 bx7_W1 bxF_W1 bxL_W1 acc_W1
      go_wp2_with fail
      refine (HB1.out _ acc_u0.out).mono ?_
      rintro e u1 ⟨rfl, hb1⟩
      have bx0_u1 := (hb1.cell bxL_u0).trans bx0_u0
      have bx1_u1 := (hb1.cell bxL_u0).trans bx1_u0
      have bx2_u1 := (hb1.cell bxL_u0).trans bx2_u0
      have bx3_u1 := (hb1.cell bxL_u0).trans bx3_u0
      have bx4_u1 := (hb1.cell bxL_u0).trans bx4_u0
      have bx5_u1 := (hb1.cell bxL_u0).trans bx5_u0
      have bx6_u1 := (hb1.cell bxL_u0).trans bx6_u0
      have bx7_u1 := (hb1.cell bxL_u0).trans bx7_u0
      have bxF_u1 : ∀ o, u1.frozen? ⟨w.heap.size, o, none⟩ = false := fun o => (hb1.frozen bxL_u0).trans (bxF_u0 o)
      have bxL_u1 : w.heap.size < u1.heap.size := Nat.lt_of_lt_of_le bxL_u0 hb1.size
      have acc_u1 := hidP (acc_u0.out.trans (hb1.mono acc_u0.out.size))
      have sz_u1 : Hid (u0.heap.size ≤ u1.heap.size) := hidP hb1.size
      clear hb1 bx0_u0 bx1_u0 bx2_u0 bx3_u0 bx4_u0 bx5_u0 bx6_u0 bx7_u0 bxF_u0 bxL_u0 acc_u0
      go_wp2_with fail
      go_ret
      exact ⟨rfl, acc_u1.out⟩
  · rw [szT_no ht] at HP
    have n2 := totD_nn ss
    have n3 := totB_nn ls
    rw [szT_no (by omega)]
    clear HB HD
    go_enter Tryz.func5, Tryz.ntmps5
    go_wp2_with fail
    obtain ⟨bx0_W1, bx1_W1, bx2_W1, bx3_W1, bx4_W1, bx5_W1, bx6_W1, bx7_W1⟩ := bx8 w 33 (.slice ap np cp) (.slice ab nb cb) (.slice al nl cl) (.int .i64 T) (.int .i64 N) (.slice aS ns cs) (.int .i64 X) (.int .i64 C)
    have bxF_W1 : ∀ o, (w.alloc (.cells #[.slice ap np cp, .slice ab nb cb, .slice al nl cl, .int .i64 T, .int .i64 N, .slice aS ns cs, .int .i64 X, .int .i64 C] 33)).frozen? ⟨w.heap.size, o, none⟩ = false := fun o => by simp [go_sem]
    have bxL_W1 : w.heap.size < (w.alloc (.cells #[.slice ap np cp, .slice ab nb cb, .slice al nl cl, .int .i64 T, .int .i64 N, .slice aS ns cs, .int .i64 X, .int .i64 C] 33)).heap.size := by simp
    have ab_W1 := alloc_below w (.cells #[.slice ap np cp, .slice ab nb cb, .slice al nl cl, .int .i64 T, .int .i64 N, .slice aS ns cs, .int .i64 X, .int .i64 C] 33)
    have as_W1 : Hid ((w.alloc (.cells #[.slice ap np cp, .slice ab nb cb, .slice al nl cl, .int .i64 T, .int .i64 N, .slice aS ns cs, .int .i64 X, .int .i64 C] 33)).heap.size = w.heap.size + 1) := hidP (by simp)
    generalize w.alloc (.cells #[.slice ap np cp, .slice ab nb cb, .slice al nl cl, .int .i64 T, .int .i64 N, .slice aS ns cs, .int .i64 X, .int .i64 C] 33) = W1 at *
    have acc_W1 := hidP (ab_W1)
    have sz_W1 : Hid (w.heap.size ≤ W1.heap.size) := hidP ab_W1.size
    clear ab_W1 
    refine (HP.out _ acc_W1.out).mono ?_
    rintro e u0 ⟨rfl, hb0⟩
    have bx0_u0 := (hb0.cell bxL_W1).trans bx0_W1
    have bx1_u0 := (hb0.cell bxL_W1).trans bx1_W1
    have bx2_u0 := (hb0.cell bxL_W1).trans bx2_W1
    have bx3_u0 := (hb0.cell bxL_W1).trans bx3_W1
    have bx4_u0 := (hb0.cell bxL_W1).trans bx4_W1
    have bx5_u0 := (hb0.cell bxL_W1).trans bx5_W1
    have bx6_u0 := (hb0.cell bxL_W1).trans bx6_W1
    have bx7_u0 := (hb0.cell bxL_W1).trans bx7_W1
    have bxF_u0 : ∀ o, u0.frozen? ⟨w.heap.size, o, none⟩ = false := fun o => (hb0.frozen bxL_W1).trans (bxF_W1 o)
    have bxL_u0 : w.heap.size < u0.heap.size := Nat.lt_of_lt_of_le bxL_W1 hb0.size
    have acc_u0 := hidP (acc_W1.out.trans (hb0.mono acc_W1.out.size))
    have sz_u0 : Hid (W1.heap.size ≤ u0.heap.size) := hidP hb0.size
    clear hb0 bx0_W1 bx1_W1 bx2_W1 bx3_W1 bx4_W1 bx5_W1 bx6_W1 bx7_W1 bxF_W1 bxL_W1 acc_W1
    go_wp2_with fail
    go_ret
    exact ⟨rfl, acc_u0.out⟩

set_option maxRecDepth 10000 in
set_option maxHeartbeats 4000000 in
theorem toState_any (ap : Option Addr) (np cp : Nat) (ab : Option Addr) (nb cb : Nat) (al : Option Addr) (nl cl : Nat) (T N : Int) (aS : Option Addr) (ns cs : Nat) (X C : Int) (ps : List Pl) (bs : List Bk) (ls : List Ls) (ss : List Ss) (w : World) (hnp : np = ps.length) (hnb : nb = bs.length) (hnl : nl = ls.length) (hns : ns = ss.length) (hP : RowG KPl w ap ps) (hK : RowG KBk w ab bs) (hL : RowG KLs w al ls) (hS : RowG KSs w aS ss) (hlp : np ≤ 1048576) (hlb : nb ≤ 1048576) (hll : nl ≤ 1048576) (hls : ns ≤ 1048576) :
    Calls Tryz.prog 7 #[.agg #[.slice ap np cp, .slice ab nb cb, .slice al nl cl, .int .i64 T, .int .i64 N, .slice aS ns cs, .int .i64 X, .int .i64 C]] w fun e w' => ∃ g h i j, e = .returned (.agg #[.slice (some ⟨g, 0, none⟩) np np, .slice (some ⟨h, 0, none⟩) nb nb, .slice (some ⟨i, 0, none⟩) nl nl, .int .i64 T, .int .i64 N, .slice (some ⟨j, 0, none⟩) ns ns, .int .i64 X, .int .i64 C]) ∧ OwnG KPl 86 w' w.heap.size (.slice (some ⟨g, 0, none⟩) np np) ps ∧ OwnG KBk 67 w' w.heap.size (.slice (some ⟨h, 0, none⟩) nb nb) bs ∧ OwnG KLs 71 w' w.heap.size (.slice (some ⟨i, 0, none⟩) nl nl) ls ∧ OwnG KSs 96 w' w.heap.size (.slice (some ⟨j, 0, none⟩) ns ns) ss ∧ Below w.heap.size w w' := by
  have HP := hidP (fun W h => toPlan_any ap np cp ab nb cb ps bs W hnp hnb (hP.later h) (hK.later h) hlp hlb)
  have HB := hidP (fun W h => toBook_any al nl cl T N ls W hnl (hL.later h) hll)
  have HD := hidP (fun W h => toDesk_any aS ns cs X ss W hns (hS.later h) hls)
  clear hP hK hL hS hnp hnb hnl hns
  go_enter Tryz.func7, Tryz.ntmps7
  go_wp2_with fail
  obtain ⟨la0_W1, la1_W1, la2_W1, la3_W1, la4_W1, la5_W1, la6_W1, la7_W1⟩ := bx8 w 33 (.slice ap np cp) (.slice ab nb cb) (.slice al nl cl) (.int .i64 T) (.int .i64 N) (.slice aS ns cs) (.int .i64 X) (.int .i64 C)
  have laF_W1 : ∀ o, (w.alloc (.cells #[.slice ap np cp, .slice ab nb cb, .slice al nl cl, .int .i64 T, .int .i64 N, .slice aS ns cs, .int .i64 X, .int .i64 C] 33)).frozen? ⟨w.heap.size, o, none⟩ = false := fun o => by simp [go_sem]
  have laL_W1 : w.heap.size < (w.alloc (.cells #[.slice ap np cp, .slice ab nb cb, .slice al nl cl, .int .i64 T, .int .i64 N, .slice aS ns cs, .int .i64 X, .int .i64 C] 33)).heap.size := by simp
  have ab_W1 := alloc_below w (.cells #[.slice ap np cp, .slice ab nb cb, .slice al nl cl, .int .i64 T, .int .i64 N, .slice aS ns cs, .int .i64 X, .int .i64 C] 33)
  have as_W1 : Hid ((w.alloc (.cells #[.slice ap np cp, .slice ab nb cb, .slice al nl cl, .int .i64 T, .int .i64 N, .slice aS ns cs, .int .i64 X, .int .i64 C] 33)).heap.size = w.heap.size + 1) := hidP (by simp)
  generalize w.alloc (.cells #[.slice ap np cp, .slice ab nb cb, .slice al nl cl, .int .i64 T, .int .i64 N, .slice aS ns cs, .int .i64 X, .int .i64 C] 33) = W1 at *
  have acc_W1 := hidP (ab_W1)
  have sz_W1 : Hid (w.heap.size ≤ W1.heap.size) := hidP ab_W1.size
  clear ab_W1 
  obtain ⟨re0_W2, re1_W2, re2_W2, re3_W2, re4_W2, re5_W2, re6_W2, re7_W2⟩ := bx8 W1 47 (.slice none 0 0) (.slice none 0 0) (.slice none 0 0) (.int .i64 0) (.int .i64 0) (.slice none 0 0) (.int .i64 0) (.int .i64 0)
  have reF_W2 : ∀ o, (W1.alloc (.cells #[.slice none 0 0, .slice none 0 0, .slice none 0 0, .int .i64 0, .int .i64 0, .slice none 0 0, .int .i64 0, .int .i64 0] 47)).frozen? ⟨W1.heap.size, o, none⟩ = false := fun o => by simp [go_sem]
  have reL_W2 : W1.heap.size < (W1.alloc (.cells #[.slice none 0 0, .slice none 0 0, .slice none 0 0, .int .i64 0, .int .i64 0, .slice none 0 0, .int .i64 0, .int .i64 0] 47)).heap.size := by simp
  have ab_W2 := alloc_below W1 (.cells #[.slice none 0 0, .slice none 0 0, .slice none 0 0, .int .i64 0, .int .i64 0, .slice none 0 0, .int .i64 0, .int .i64 0] 47)
  have as_W2 : Hid ((W1.alloc (.cells #[.slice none 0 0, .slice none 0 0, .slice none 0 0, .int .i64 0, .int .i64 0, .slice none 0 0, .int .i64 0, .int .i64 0] 47)).heap.size = W1.heap.size + 1) := hidP (by simp)
  generalize W1.alloc (.cells #[.slice none 0 0, .slice none 0 0, .slice none 0 0, .int .i64 0, .int .i64 0, .slice none 0 0, .int .i64 0, .int .i64 0] 47) = W2 at *
  have la0_W2 := (ab_W2.cell laL_W1).trans la0_W1
  have la1_W2 := (ab_W2.cell laL_W1).trans la1_W1
  have la2_W2 := (ab_W2.cell laL_W1).trans la2_W1
  have la3_W2 := (ab_W2.cell laL_W1).trans la3_W1
  have la4_W2 := (ab_W2.cell laL_W1).trans la4_W1
  have la5_W2 := (ab_W2.cell laL_W1).trans la5_W1
  have la6_W2 := (ab_W2.cell laL_W1).trans la6_W1
  have la7_W2 := (ab_W2.cell laL_W1).trans la7_W1
  have laF_W2 : ∀ o, W2.frozen? ⟨w.heap.size, o, none⟩ = false := fun o => (ab_W2.frozen laL_W1).trans (laF_W1 o)
  have laL_W2 : w.heap.size < W2.heap.size := Nat.lt_of_lt_of_le laL_W1 ab_W2.size
  have acc_W2 := hidP (acc_W1.out.trans (ab_W2.mono acc_W1.out.size))
  have sz_W2 : Hid (W1.heap.size ≤ W2.heap.size) := hidP ab_W2.size
  clear ab_W2 la0_W1 la1_W1 la2_W1 la3_W1 la4_W1 la5_W1 la6_W1 la7_W1 laF_W1 laL_W1 acc_W1
  obtain ⟨ou0_W3, ou1_W3, ou2_W3, ou3_W3, ou4_W3, ou5_W3, ou6_W3, ou7_W3⟩ := bx8 W2 47 (.slice none 0 0) (.slice none 0 0) (.slice none 0 0) (.int .i64 0) (.int .i64 0) (.slice none 0 0) (.int .i64 0) (.int .i64 0)
  have ouF_W3 : ∀ o, (W2.alloc (.cells #[.slice none 0 0, .slice none 0 0, .slice none 0 0, .int .i64 0, .int .i64 0, .slice none 0 0, .int .i64 0, .int .i64 0] 47)).frozen? ⟨W2.heap.size, o, none⟩ = false := fun o => by simp [go_sem]
  have ouL_W3 : W2.heap.size < (W2.alloc (.cells #[.slice none 0 0, .slice none 0 0, .slice none 0 0, .int .i64 0, .int .i64 0, .slice none 0 0, .int .i64 0, .int .i64 0] 47)).heap.size := by simp
  have ab_W3 := alloc_below W2 (.cells #[.slice none 0 0, .slice none 0 0, .slice none 0 0, .int .i64 0, .int .i64 0, .slice none 0 0, .int .i64 0, .int .i64 0] 47)
  have as_W3 : Hid ((W2.alloc (.cells #[.slice none 0 0, .slice none 0 0, .slice none 0 0, .int .i64 0, .int .i64 0, .slice none 0 0, .int .i64 0, .int .i64 0] 47)).heap.size = W2.heap.size + 1) := hidP (by simp)
  generalize W2.alloc (.cells #[.slice none 0 0, .slice none 0 0, .slice none 0 0, .int .i64 0, .int .i64 0, .slice none 0 0, .int .i64 0, .int .i64 0] 47) = W3 at *
  have la0_W3 := (ab_W3.cell laL_W2).trans la0_W2
  have la1_W3 := (ab_W3.cell laL_W2).trans la1_W2
  have la2_W3 := (ab_W3.cell laL_W2).trans la2_W2
  have la3_W3 := (ab_W3.cell laL_W2).trans la3_W2
  have la4_W3 := (ab_W3.cell laL_W2).trans la4_W2
  have la5_W3 := (ab_W3.cell laL_W2).trans la5_W2
  have la6_W3 := (ab_W3.cell laL_W2).trans la6_W2
  have la7_W3 := (ab_W3.cell laL_W2).trans la7_W2
  have laF_W3 : ∀ o, W3.frozen? ⟨w.heap.size, o, none⟩ = false := fun o => (ab_W3.frozen laL_W2).trans (laF_W2 o)
  have laL_W3 : w.heap.size < W3.heap.size := Nat.lt_of_lt_of_le laL_W2 ab_W3.size
  have re0_W3 := (ab_W3.cell reL_W2).trans re0_W2
  have re1_W3 := (ab_W3.cell reL_W2).trans re1_W2
  have re2_W3 := (ab_W3.cell reL_W2).trans re2_W2
  have re3_W3 := (ab_W3.cell reL_W2).trans re3_W2
  have re4_W3 := (ab_W3.cell reL_W2).trans re4_W2
  have re5_W3 := (ab_W3.cell reL_W2).trans re5_W2
  have re6_W3 := (ab_W3.cell reL_W2).trans re6_W2
  have re7_W3 := (ab_W3.cell reL_W2).trans re7_W2
  have reF_W3 : ∀ o, W3.frozen? ⟨W1.heap.size, o, none⟩ = false := fun o => (ab_W3.frozen reL_W2).trans (reF_W2 o)
  have reL_W3 : W1.heap.size < W3.heap.size := Nat.lt_of_lt_of_le reL_W2 ab_W3.size
  have acc_W3 := hidP (acc_W2.out.trans (ab_W3.mono acc_W2.out.size))
  have sz_W3 : Hid (W2.heap.size ≤ W3.heap.size) := hidP ab_W3.size
  clear ab_W3 la0_W2 la1_W2 la2_W2 la3_W2 la4_W2 la5_W2 la6_W2 la7_W2 laF_W2 laL_W2 re0_W2 re1_W2 re2_W2 re3_W2 re4_W2 re5_W2 re6_W2 re7_W2 reF_W2 reL_W2 acc_W2
  simp only [as_W1.out] at re0_W3 re1_W3 re2_W3 re3_W3 re4_W3 re5_W3 re6_W3 re7_W3 reF_W3 reL_W3
  simp only [as_W2.out, as_W1.out] at ou0_W3 ou1_W3 ou2_W3 ou3_W3 ou4_W3 ou5_W3 ou6_W3 ou7_W3 ouF_W3 ouL_W3
  have Wz : Hid (W3.heap.size = w.heap.size + 3) := hidP (by have := as_W1.out; have := as_W2.out; have := as_W3.out; omega)
  refine (HP.out _ acc_W3.out).mono ?_
  rintro e u1 ⟨g, h, rfl, og, oh, _, hb1⟩
  have OG := hidP og
  have OH := hidP oh
  clear og oh
  have la0_u1 := (hb1.cell laL_W3).trans la0_W3
  have la1_u1 := (hb1.cell laL_W3).trans la1_W3
  have la2_u1 := (hb1.cell laL_W3).trans la2_W3
  have la3_u1 := (hb1.cell laL_W3).trans la3_W3
  have la4_u1 := (hb1.cell laL_W3).trans la4_W3
  have la5_u1 := (hb1.cell laL_W3).trans la5_W3
  have la6_u1 := (hb1.cell laL_W3).trans la6_W3
  have la7_u1 := (hb1.cell laL_W3).trans la7_W3
  have laF_u1 : ∀ o, u1.frozen? ⟨w.heap.size, o, none⟩ = false := fun o => (hb1.frozen laL_W3).trans (laF_W3 o)
  have laL_u1 : w.heap.size < u1.heap.size := Nat.lt_of_lt_of_le laL_W3 hb1.size
  have re0_u1 := (hb1.cell reL_W3).trans re0_W3
  have re1_u1 := (hb1.cell reL_W3).trans re1_W3
  have re2_u1 := (hb1.cell reL_W3).trans re2_W3
  have re3_u1 := (hb1.cell reL_W3).trans re3_W3
  have re4_u1 := (hb1.cell reL_W3).trans re4_W3
  have re5_u1 := (hb1.cell reL_W3).trans re5_W3
  have re6_u1 := (hb1.cell reL_W3).trans re6_W3
  have re7_u1 := (hb1.cell reL_W3).trans re7_W3
  have reF_u1 : ∀ o, u1.frozen? ⟨(w.heap.size + 1), o, none⟩ = false := fun o => (hb1.frozen reL_W3).trans (reF_W3 o)
  have reL_u1 : (w.heap.size + 1) < u1.heap.size := Nat.lt_of_lt_of_le reL_W3 hb1.size
  have ou0_u1 := (hb1.cell ouL_W3).trans ou0_W3
  have ou1_u1 := (hb1.cell ouL_W3).trans ou1_W3
  have ou2_u1 := (hb1.cell ouL_W3).trans ou2_W3
  have ou3_u1 := (hb1.cell ouL_W3).trans ou3_W3
  have ou4_u1 := (hb1.cell ouL_W3).trans ou4_W3
  have ou5_u1 := (hb1.cell ouL_W3).trans ou5_W3
  have ou6_u1 := (hb1.cell ouL_W3).trans ou6_W3
  have ou7_u1 := (hb1.cell ouL_W3).trans ou7_W3
  have ouF_u1 : ∀ o, u1.frozen? ⟨(w.heap.size + 2), o, none⟩ = false := fun o => (hb1.frozen ouL_W3).trans (ouF_W3 o)
  have ouL_u1 : (w.heap.size + 2) < u1.heap.size := Nat.lt_of_lt_of_le ouL_W3 hb1.size
  have acc_u1 := hidP (acc_W3.out.trans (hb1.mono acc_W3.out.size))
  have sz_u1 : Hid (W3.heap.size ≤ u1.heap.size) := hidP hb1.size
  clear hb1 la0_W3 la1_W3 la2_W3 la3_W3 la4_W3 la5_W3 la6_W3 la7_W3 laF_W3 laL_W3 re0_W3 re1_W3 re2_W3 re3_W3 re4_W3 re5_W3 re6_W3 re7_W3 reF_W3 reL_W3 ou0_W3 ou1_W3 ou2_W3 ou3_W3 ou4_W3 ou5_W3 ou6_W3 ou7_W3 ouF_W3 ouL_W3 acc_W3
  have oG_u1 := hidP (OG.out.mono (B' := w.heap.size + 3) (by have := Wz.out; omega))
  have oH_u1 := hidP (OH.out.mono (B' := w.heap.size + 3) (by have := Wz.out; omega))
  clear OG OH
  go_wp2_with fail
  have ou0_W4 : ((u1.setCell ⟨(w.heap.size + 2), 0, none⟩ (.slice (some ⟨g, 0, none⟩) np np)).setCell ⟨(w.heap.size + 2), 1, none⟩ (.slice (some ⟨h, 0, none⟩) nb nb)).cell? ⟨(w.heap.size + 2), 0, none⟩ = some (.slice (some ⟨g, 0, none⟩) np np) := by simp [go_sem, ou0_u1]
  have ou1_W4 : ((u1.setCell ⟨(w.heap.size + 2), 0, none⟩ (.slice (some ⟨g, 0, none⟩) np np)).setCell ⟨(w.heap.size + 2), 1, none⟩ (.slice (some ⟨h, 0, none⟩) nb nb)).cell? ⟨(w.heap.size + 2), 1, none⟩ = some (.slice (some ⟨h, 0, none⟩) nb nb) := by simp [go_sem, ou1_u1]
  have ou2_W4 : ((u1.setCell ⟨(w.heap.size + 2), 0, none⟩ (.slice (some ⟨g, 0, none⟩) np np)).setCell ⟨(w.heap.size + 2), 1, none⟩ (.slice (some ⟨h, 0, none⟩) nb nb)).cell? ⟨(w.heap.size + 2), 2, none⟩ = some (.slice none 0 0) := by simp [go_sem, ou2_u1]
  have ou3_W4 : ((u1.setCell ⟨(w.heap.size + 2), 0, none⟩ (.slice (some ⟨g, 0, none⟩) np np)).setCell ⟨(w.heap.size + 2), 1, none⟩ (.slice (some ⟨h, 0, none⟩) nb nb)).cell? ⟨(w.heap.size + 2), 3, none⟩ = some (.int .i64 0) := by simp [go_sem, ou3_u1]
  have ou4_W4 : ((u1.setCell ⟨(w.heap.size + 2), 0, none⟩ (.slice (some ⟨g, 0, none⟩) np np)).setCell ⟨(w.heap.size + 2), 1, none⟩ (.slice (some ⟨h, 0, none⟩) nb nb)).cell? ⟨(w.heap.size + 2), 4, none⟩ = some (.int .i64 0) := by simp [go_sem, ou4_u1]
  have ou5_W4 : ((u1.setCell ⟨(w.heap.size + 2), 0, none⟩ (.slice (some ⟨g, 0, none⟩) np np)).setCell ⟨(w.heap.size + 2), 1, none⟩ (.slice (some ⟨h, 0, none⟩) nb nb)).cell? ⟨(w.heap.size + 2), 5, none⟩ = some (.slice none 0 0) := by simp [go_sem, ou5_u1]
  have ou6_W4 : ((u1.setCell ⟨(w.heap.size + 2), 0, none⟩ (.slice (some ⟨g, 0, none⟩) np np)).setCell ⟨(w.heap.size + 2), 1, none⟩ (.slice (some ⟨h, 0, none⟩) nb nb)).cell? ⟨(w.heap.size + 2), 6, none⟩ = some (.int .i64 0) := by simp [go_sem, ou6_u1]
  have ou7_W4 : ((u1.setCell ⟨(w.heap.size + 2), 0, none⟩ (.slice (some ⟨g, 0, none⟩) np np)).setCell ⟨(w.heap.size + 2), 1, none⟩ (.slice (some ⟨h, 0, none⟩) nb nb)).cell? ⟨(w.heap.size + 2), 7, none⟩ = some (.int .i64 0) := by simp [go_sem, ou7_u1]
  have la0_W4 : ((u1.setCell ⟨(w.heap.size + 2), 0, none⟩ (.slice (some ⟨g, 0, none⟩) np np)).setCell ⟨(w.heap.size + 2), 1, none⟩ (.slice (some ⟨h, 0, none⟩) nb nb)).cell? ⟨w.heap.size, 0, none⟩ = some (.slice ap np cp) := cell_set1 (cell_set1 (la0_u1) (by omega)) (by omega)
  have la1_W4 : ((u1.setCell ⟨(w.heap.size + 2), 0, none⟩ (.slice (some ⟨g, 0, none⟩) np np)).setCell ⟨(w.heap.size + 2), 1, none⟩ (.slice (some ⟨h, 0, none⟩) nb nb)).cell? ⟨w.heap.size, 1, none⟩ = some (.slice ab nb cb) := cell_set1 (cell_set1 (la1_u1) (by omega)) (by omega)
  have la2_W4 : ((u1.setCell ⟨(w.heap.size + 2), 0, none⟩ (.slice (some ⟨g, 0, none⟩) np np)).setCell ⟨(w.heap.size + 2), 1, none⟩ (.slice (some ⟨h, 0, none⟩) nb nb)).cell? ⟨w.heap.size, 2, none⟩ = some (.slice al nl cl) := cell_set1 (cell_set1 (la2_u1) (by omega)) (by omega)
  have la3_W4 : ((u1.setCell ⟨(w.heap.size + 2), 0, none⟩ (.slice (some ⟨g, 0, none⟩) np np)).setCell ⟨(w.heap.size + 2), 1, none⟩ (.slice (some ⟨h, 0, none⟩) nb nb)).cell? ⟨w.heap.size, 3, none⟩ = some (.int .i64 T) := cell_set1 (cell_set1 (la3_u1) (by omega)) (by omega)
  have la4_W4 : ((u1.setCell ⟨(w.heap.size + 2), 0, none⟩ (.slice (some ⟨g, 0, none⟩) np np)).setCell ⟨(w.heap.size + 2), 1, none⟩ (.slice (some ⟨h, 0, none⟩) nb nb)).cell? ⟨w.heap.size, 4, none⟩ = some (.int .i64 N) := cell_set1 (cell_set1 (la4_u1) (by omega)) (by omega)
  have la5_W4 : ((u1.setCell ⟨(w.heap.size + 2), 0, none⟩ (.slice (some ⟨g, 0, none⟩) np np)).setCell ⟨(w.heap.size + 2), 1, none⟩ (.slice (some ⟨h, 0, none⟩) nb nb)).cell? ⟨w.heap.size, 5, none⟩ = some (.slice aS ns cs) := cell_set1 (cell_set1 (la5_u1) (by omega)) (by omega)
  have la6_W4 : ((u1.setCell ⟨(w.heap.size + 2), 0, none⟩ (.slice (some ⟨g, 0, none⟩) np np)).setCell ⟨(w.heap.size + 2), 1, none⟩ (.slice (some ⟨h, 0, none⟩) nb nb)).cell? ⟨w.heap.size, 6, none⟩ = some (.int .i64 X) := cell_set1 (cell_set1 (la6_u1) (by omega)) (by omega)
  have la7_W4 : ((u1.setCell ⟨(w.heap.size + 2), 0, none⟩ (.slice (some ⟨g, 0, none⟩) np np)).setCell ⟨(w.heap.size + 2), 1, none⟩ (.slice (some ⟨h, 0, none⟩) nb nb)).cell? ⟨w.heap.size, 7, none⟩ = some (.int .i64 C) := cell_set1 (cell_set1 (la7_u1) (by omega)) (by omega)
  have laF_W4 : ∀ o, ((u1.setCell ⟨(w.heap.size + 2), 0, none⟩ (.slice (some ⟨g, 0, none⟩) np np)).setCell ⟨(w.heap.size + 2), 1, none⟩ (.slice (some ⟨h, 0, none⟩) nb nb)).frozen? ⟨w.heap.size, o, none⟩ = false := fun o => frz_set1 (frz_set1 ((laF_u1 o)))
  have laL_W4 : w.heap.size < ((u1.setCell ⟨(w.heap.size + 2), 0, none⟩ (.slice (some ⟨g, 0, none⟩) np np)).setCell ⟨(w.heap.size + 2), 1, none⟩ (.slice (some ⟨h, 0, none⟩) nb nb)).heap.size := by simpa using laL_u1
  have re0_W4 : ((u1.setCell ⟨(w.heap.size + 2), 0, none⟩ (.slice (some ⟨g, 0, none⟩) np np)).setCell ⟨(w.heap.size + 2), 1, none⟩ (.slice (some ⟨h, 0, none⟩) nb nb)).cell? ⟨(w.heap.size + 1), 0, none⟩ = some (.slice none 0 0) := cell_set1 (cell_set1 (re0_u1) (by omega)) (by omega)
  have re1_W4 : ((u1.setCell ⟨(w.heap.size + 2), 0, none⟩ (.slice (some ⟨g, 0, none⟩) np np)).setCell ⟨(w.heap.size + 2), 1, none⟩ (.slice (some ⟨h, 0, none⟩) nb nb)).cell? ⟨(w.heap.size + 1), 1, none⟩ = some (.slice none 0 0) := cell_set1 (cell_set1 (re1_u1) (by omega)) (by omega)
  have re2_W4 : ((u1.setCell ⟨(w.heap.size + 2), 0, none⟩ (.slice (some ⟨g, 0, none⟩) np np)).setCell ⟨(w.heap.size + 2), 1, none⟩ (.slice (some ⟨h, 0, none⟩) nb nb)).cell? ⟨(w.heap.size + 1), 2, none⟩ = some (.slice none 0 0) := cell_set1 (cell_set1 (re2_u1) (by omega)) (by omega)
  have re3_W4 : ((u1.setCell ⟨(w.heap.size + 2), 0, none⟩ (.slice (some ⟨g, 0, none⟩) np np)).setCell ⟨(w.heap.size + 2), 1, none⟩ (.slice (some ⟨h, 0, none⟩) nb nb)).cell? ⟨(w.heap.size + 1), 3, none⟩ = some (.int .i64 0) := cell_set1 (cell_set1 (re3_u1) (by omega)) (by omega)
  have re4_W4 : ((u1.setCell ⟨(w.heap.size + 2), 0, none⟩ (.slice (some ⟨g, 0, none⟩) np np)).setCell ⟨(w.heap.size + 2), 1, none⟩ (.slice (some ⟨h, 0, none⟩) nb nb)).cell? ⟨(w.heap.size + 1), 4, none⟩ = some (.int .i64 0) := cell_set1 (cell_set1 (re4_u1) (by omega)) (by omega)
  have re5_W4 : ((u1.setCell ⟨(w.heap.size + 2), 0, none⟩ (.slice (some ⟨g, 0, none⟩) np np)).setCell ⟨(w.heap.size + 2), 1, none⟩ (.slice (some ⟨h, 0, none⟩) nb nb)).cell? ⟨(w.heap.size + 1), 5, none⟩ = some (.slice none 0 0) := cell_set1 (cell_set1 (re5_u1) (by omega)) (by omega)
  have re6_W4 : ((u1.setCell ⟨(w.heap.size + 2), 0, none⟩ (.slice (some ⟨g, 0, none⟩) np np)).setCell ⟨(w.heap.size + 2), 1, none⟩ (.slice (some ⟨h, 0, none⟩) nb nb)).cell? ⟨(w.heap.size + 1), 6, none⟩ = some (.int .i64 0) := cell_set1 (cell_set1 (re6_u1) (by omega)) (by omega)
  have re7_W4 : ((u1.setCell ⟨(w.heap.size + 2), 0, none⟩ (.slice (some ⟨g, 0, none⟩) np np)).setCell ⟨(w.heap.size + 2), 1, none⟩ (.slice (some ⟨h, 0, none⟩) nb nb)).cell? ⟨(w.heap.size + 1), 7, none⟩ = some (.int .i64 0) := cell_set1 (cell_set1 (re7_u1) (by omega)) (by omega)
  have reF_W4 : ∀ o, ((u1.setCell ⟨(w.heap.size + 2), 0, none⟩ (.slice (some ⟨g, 0, none⟩) np np)).setCell ⟨(w.heap.size + 2), 1, none⟩ (.slice (some ⟨h, 0, none⟩) nb nb)).frozen? ⟨(w.heap.size + 1), o, none⟩ = false := fun o => frz_set1 (frz_set1 ((reF_u1 o)))
  have reL_W4 : (w.heap.size + 1) < ((u1.setCell ⟨(w.heap.size + 2), 0, none⟩ (.slice (some ⟨g, 0, none⟩) np np)).setCell ⟨(w.heap.size + 2), 1, none⟩ (.slice (some ⟨h, 0, none⟩) nb nb)).heap.size := by simpa using reL_u1
  have ouF_W4 : ∀ o, ((u1.setCell ⟨(w.heap.size + 2), 0, none⟩ (.slice (some ⟨g, 0, none⟩) np np)).setCell ⟨(w.heap.size + 2), 1, none⟩ (.slice (some ⟨h, 0, none⟩) nb nb)).frozen? ⟨(w.heap.size + 2), o, none⟩ = false := fun o => frz_set1 (frz_set1 ((ouF_u1 o)))
  have ouL_W4 : (w.heap.size + 2) < ((u1.setCell ⟨(w.heap.size + 2), 0, none⟩ (.slice (some ⟨g, 0, none⟩) np np)).setCell ⟨(w.heap.size + 2), 1, none⟩ (.slice (some ⟨h, 0, none⟩) nb nb)).heap.size := by simpa using ouL_u1
  have oG_W4 : Hid (OwnG KPl 86 ((u1.setCell ⟨(w.heap.size + 2), 0, none⟩ (.slice (some ⟨g, 0, none⟩) np np)).setCell ⟨(w.heap.size + 2), 1, none⟩ (.slice (some ⟨h, 0, none⟩) nb nb)) (w.heap.size + 3) (.slice (some ⟨g, 0, none⟩) np np) (ps)) := hidP (OwnG.grown (OwnG.grown (oG_u1.out) (grown_cellG _ _ _ _) (OwnG.ne_of oG_u1.out (by omega))) (grown_cellG _ _ _ _) (OwnG.ne_of oG_u1.out (by omega)))
  have oH_W4 : Hid (OwnG KBk 67 ((u1.setCell ⟨(w.heap.size + 2), 0, none⟩ (.slice (some ⟨g, 0, none⟩) np np)).setCell ⟨(w.heap.size + 2), 1, none⟩ (.slice (some ⟨h, 0, none⟩) nb nb)) (w.heap.size + 3) (.slice (some ⟨h, 0, none⟩) nb nb) (bs)) := hidP (OwnG.grown (OwnG.grown (oH_u1.out) (grown_cellG _ _ _ _) (OwnG.ne_of oH_u1.out (by omega))) (grown_cellG _ _ _ _) (OwnG.ne_of oH_u1.out (by omega)))
  have acc_W4 : Hid (Below w.heap.size w ((u1.setCell ⟨(w.heap.size + 2), 0, none⟩ (.slice (some ⟨g, 0, none⟩) np np)).setCell ⟨(w.heap.size + 2), 1, none⟩ (.slice (some ⟨h, 0, none⟩) nb nb))) := hidP (Below.setCell (Below.setCell (acc_u1.out) (by try dsimp only; omega) _) (by try dsimp only; omega) _)
  have sz_W4 : Hid (((u1.setCell ⟨(w.heap.size + 2), 0, none⟩ (.slice (some ⟨g, 0, none⟩) np np)).setCell ⟨(w.heap.size + 2), 1, none⟩ (.slice (some ⟨h, 0, none⟩) nb nb)).heap.size = u1.heap.size) := hidP (by simp)
  generalize (u1.setCell ⟨(w.heap.size + 2), 0, none⟩ (.slice (some ⟨g, 0, none⟩) np np)).setCell ⟨(w.heap.size + 2), 1, none⟩ (.slice (some ⟨h, 0, none⟩) nb nb) = W4 at *
  clear ou0_u1 ou1_u1 ou2_u1 ou3_u1 ou4_u1 ou5_u1 ou6_u1 ou7_u1 la0_u1 la1_u1 la2_u1 la3_u1 la4_u1 la5_u1 la6_u1 la7_u1 laF_u1 laL_u1 re0_u1 re1_u1 re2_u1 re3_u1 re4_u1 re5_u1 re6_u1 re7_u1 reF_u1 reL_u1 ouF_u1 ouL_u1 oG_u1 oH_u1 acc_u1
  refine (HB.out _ acc_W4.out).mono ?_
  rintro e u2 ⟨i, rfl, oi, hb2⟩
  have OI := hidP oi
  clear oi
  have la0_u2 := (hb2.cell laL_W4).trans la0_W4
  have la1_u2 := (hb2.cell laL_W4).trans la1_W4
  have la2_u2 := (hb2.cell laL_W4).trans la2_W4
  have la3_u2 := (hb2.cell laL_W4).trans la3_W4
  have la4_u2 := (hb2.cell laL_W4).trans la4_W4
  have la5_u2 := (hb2.cell laL_W4).trans la5_W4
  have la6_u2 := (hb2.cell laL_W4).trans la6_W4
  have la7_u2 := (hb2.cell laL_W4).trans la7_W4
  have laF_u2 : ∀ o, u2.frozen? ⟨w.heap.size, o, none⟩ = false := fun o => (hb2.frozen laL_W4).trans (laF_W4 o)
  have laL_u2 : w.heap.size < u2.heap.size := Nat.lt_of_lt_of_le laL_W4 hb2.size
  have re0_u2 := (hb2.cell reL_W4).trans re0_W4
  have re1_u2 := (hb2.cell reL_W4).trans re1_W4
  have re2_u2 := (hb2.cell reL_W4).trans re2_W4
  have re3_u2 := (hb2.cell reL_W4).trans re3_W4
  have re4_u2 := (hb2.cell reL_W4).trans re4_W4
  have re5_u2 := (hb2.cell reL_W4).trans re5_W4
  have re6_u2 := (hb2.cell reL_W4).trans re6_W4
  have re7_u2 := (hb2.cell reL_W4).trans re7_W4
  have reF_u2 : ∀ o, u2.frozen? ⟨(w.heap.size + 1), o, none⟩ = false := fun o => (hb2.frozen reL_W4).trans (reF_W4 o)
  have reL_u2 : (w.heap.size + 1) < u2.heap.size := Nat.lt_of_lt_of_le reL_W4 hb2.size
  have ou0_u2 := (hb2.cell ouL_W4).trans ou0_W4
  have ou1_u2 := (hb2.cell ouL_W4).trans ou1_W4
  have ou2_u2 := (hb2.cell ouL_W4).trans ou2_W4
  have ou3_u2 := (hb2.cell ouL_W4).trans ou3_W4
  have ou4_u2 := (hb2.cell ouL_W4).trans ou4_W4
  have ou5_u2 := (hb2.cell ouL_W4).trans ou5_W4
  have ou6_u2 := (hb2.cell ouL_W4).trans ou6_W4
  have ou7_u2 := (hb2.cell ouL_W4).trans ou7_W4
  have ouF_u2 : ∀ o, u2.frozen? ⟨(w.heap.size + 2), o, none⟩ = false := fun o => (hb2.frozen ouL_W4).trans (ouF_W4 o)
  have ouL_u2 : (w.heap.size + 2) < u2.heap.size := Nat.lt_of_lt_of_le ouL_W4 hb2.size
  have oG_u2 := hidP (OwnG.later oG_W4.out hb2)
  have oH_u2 := hidP (OwnG.later oH_W4.out hb2)
  have acc_u2 := hidP (acc_W4.out.trans (hb2.mono acc_W4.out.size))
  have sz_u2 : Hid (W4.heap.size ≤ u2.heap.size) := hidP hb2.size
  clear hb2 la0_W4 la1_W4 la2_W4 la3_W4 la4_W4 la5_W4 la6_W4 la7_W4 laF_W4 laL_W4 re0_W4 re1_W4 re2_W4 re3_W4 re4_W4 re5_W4 re6_W4 re7_W4 reF_W4 reL_W4 ou0_W4 ou1_W4 ou2_W4 ou3_W4 ou4_W4 ou5_W4 ou6_W4 ou7_W4 ouF_W4 ouL_W4 oG_W4 oH_W4 acc_W4
  have oI_u2 := hidP (OI.out.mono (B' := w.heap.size + 3) (by have := as_W1.out; have := sz_W1.out; have := as_W2.out; have := sz_W2.out; have := as_W3.out; have := sz_W3.out; have := Wz.out; have := sz_u1.out; have := sz_W4.out; have := sz_u2.out; omega))
  clear OI
  go_wp2_with fail
  have ou0_W5 : (((u2.setCell ⟨(w.heap.size + 2), 2, none⟩ (.slice (some ⟨i, 0, none⟩) nl nl)).setCell ⟨(w.heap.size + 2), 3, none⟩ (.int .i64 T)).setCell ⟨(w.heap.size + 2), 4, none⟩ (.int .i64 N)).cell? ⟨(w.heap.size + 2), 0, none⟩ = some (.slice (some ⟨g, 0, none⟩) np np) := by simp [go_sem, ou0_u2]
  have ou1_W5 : (((u2.setCell ⟨(w.heap.size + 2), 2, none⟩ (.slice (some ⟨i, 0, none⟩) nl nl)).setCell ⟨(w.heap.size + 2), 3, none⟩ (.int .i64 T)).setCell ⟨(w.heap.size + 2), 4, none⟩ (.int .i64 N)).cell? ⟨(w.heap.size + 2), 1, none⟩ = some (.slice (some ⟨h, 0, none⟩) nb nb) := by simp [go_sem, ou1_u2]
  have ou2_W5 : (((u2.setCell ⟨(w.heap.size + 2), 2, none⟩ (.slice (some ⟨i, 0, none⟩) nl nl)).setCell ⟨(w.heap.size + 2), 3, none⟩ (.int .i64 T)).setCell ⟨(w.heap.size + 2), 4, none⟩ (.int .i64 N)).cell? ⟨(w.heap.size + 2), 2, none⟩ = some (.slice (some ⟨i, 0, none⟩) nl nl) := by simp [go_sem, ou2_u2]
  have ou3_W5 : (((u2.setCell ⟨(w.heap.size + 2), 2, none⟩ (.slice (some ⟨i, 0, none⟩) nl nl)).setCell ⟨(w.heap.size + 2), 3, none⟩ (.int .i64 T)).setCell ⟨(w.heap.size + 2), 4, none⟩ (.int .i64 N)).cell? ⟨(w.heap.size + 2), 3, none⟩ = some (.int .i64 T) := by simp [go_sem, ou3_u2]
  have ou4_W5 : (((u2.setCell ⟨(w.heap.size + 2), 2, none⟩ (.slice (some ⟨i, 0, none⟩) nl nl)).setCell ⟨(w.heap.size + 2), 3, none⟩ (.int .i64 T)).setCell ⟨(w.heap.size + 2), 4, none⟩ (.int .i64 N)).cell? ⟨(w.heap.size + 2), 4, none⟩ = some (.int .i64 N) := by simp [go_sem, ou4_u2]
  have ou5_W5 : (((u2.setCell ⟨(w.heap.size + 2), 2, none⟩ (.slice (some ⟨i, 0, none⟩) nl nl)).setCell ⟨(w.heap.size + 2), 3, none⟩ (.int .i64 T)).setCell ⟨(w.heap.size + 2), 4, none⟩ (.int .i64 N)).cell? ⟨(w.heap.size + 2), 5, none⟩ = some (.slice none 0 0) := by simp [go_sem, ou5_u2]
  have ou6_W5 : (((u2.setCell ⟨(w.heap.size + 2), 2, none⟩ (.slice (some ⟨i, 0, none⟩) nl nl)).setCell ⟨(w.heap.size + 2), 3, none⟩ (.int .i64 T)).setCell ⟨(w.heap.size + 2), 4, none⟩ (.int .i64 N)).cell? ⟨(w.heap.size + 2), 6, none⟩ = some (.int .i64 0) := by simp [go_sem, ou6_u2]
  have ou7_W5 : (((u2.setCell ⟨(w.heap.size + 2), 2, none⟩ (.slice (some ⟨i, 0, none⟩) nl nl)).setCell ⟨(w.heap.size + 2), 3, none⟩ (.int .i64 T)).setCell ⟨(w.heap.size + 2), 4, none⟩ (.int .i64 N)).cell? ⟨(w.heap.size + 2), 7, none⟩ = some (.int .i64 0) := by simp [go_sem, ou7_u2]
  have la0_W5 : (((u2.setCell ⟨(w.heap.size + 2), 2, none⟩ (.slice (some ⟨i, 0, none⟩) nl nl)).setCell ⟨(w.heap.size + 2), 3, none⟩ (.int .i64 T)).setCell ⟨(w.heap.size + 2), 4, none⟩ (.int .i64 N)).cell? ⟨w.heap.size, 0, none⟩ = some (.slice ap np cp) := cell_set1 (cell_set1 (cell_set1 (la0_u2) (by omega)) (by omega)) (by omega)
  have la1_W5 : (((u2.setCell ⟨(w.heap.size + 2), 2, none⟩ (.slice (some ⟨i, 0, none⟩) nl nl)).setCell ⟨(w.heap.size + 2), 3, none⟩ (.int .i64 T)).setCell ⟨(w.heap.size + 2), 4, none⟩ (.int .i64 N)).cell? ⟨w.heap.size, 1, none⟩ = some (.slice ab nb cb) := cell_set1 (cell_set1 (cell_set1 (la1_u2) (by omega)) (by omega)) (by omega)
  have la2_W5 : (((u2.setCell ⟨(w.heap.size + 2), 2, none⟩ (.slice (some ⟨i, 0, none⟩) nl nl)).setCell ⟨(w.heap.size + 2), 3, none⟩ (.int .i64 T)).setCell ⟨(w.heap.size + 2), 4, none⟩ (.int .i64 N)).cell? ⟨w.heap.size, 2, none⟩ = some (.slice al nl cl) := cell_set1 (cell_set1 (cell_set1 (la2_u2) (by omega)) (by omega)) (by omega)
  have la3_W5 : (((u2.setCell ⟨(w.heap.size + 2), 2, none⟩ (.slice (some ⟨i, 0, none⟩) nl nl)).setCell ⟨(w.heap.size + 2), 3, none⟩ (.int .i64 T)).setCell ⟨(w.heap.size + 2), 4, none⟩ (.int .i64 N)).cell? ⟨w.heap.size, 3, none⟩ = some (.int .i64 T) := cell_set1 (cell_set1 (cell_set1 (la3_u2) (by omega)) (by omega)) (by omega)
  have la4_W5 : (((u2.setCell ⟨(w.heap.size + 2), 2, none⟩ (.slice (some ⟨i, 0, none⟩) nl nl)).setCell ⟨(w.heap.size + 2), 3, none⟩ (.int .i64 T)).setCell ⟨(w.heap.size + 2), 4, none⟩ (.int .i64 N)).cell? ⟨w.heap.size, 4, none⟩ = some (.int .i64 N) := cell_set1 (cell_set1 (cell_set1 (la4_u2) (by omega)) (by omega)) (by omega)
  have la5_W5 : (((u2.setCell ⟨(w.heap.size + 2), 2, none⟩ (.slice (some ⟨i, 0, none⟩) nl nl)).setCell ⟨(w.heap.size + 2), 3, none⟩ (.int .i64 T)).setCell ⟨(w.heap.size + 2), 4, none⟩ (.int .i64 N)).cell? ⟨w.heap.size, 5, none⟩ = some (.slice aS ns cs) := cell_set1 (cell_set1 (cell_set1 (la5_u2) (by omega)) (by omega)) (by omega)
  have la6_W5 : (((u2.setCell ⟨(w.heap.size + 2), 2, none⟩ (.slice (some ⟨i, 0, none⟩) nl nl)).setCell ⟨(w.heap.size + 2), 3, none⟩ (.int .i64 T)).setCell ⟨(w.heap.size + 2), 4, none⟩ (.int .i64 N)).cell? ⟨w.heap.size, 6, none⟩ = some (.int .i64 X) := cell_set1 (cell_set1 (cell_set1 (la6_u2) (by omega)) (by omega)) (by omega)
  have la7_W5 : (((u2.setCell ⟨(w.heap.size + 2), 2, none⟩ (.slice (some ⟨i, 0, none⟩) nl nl)).setCell ⟨(w.heap.size + 2), 3, none⟩ (.int .i64 T)).setCell ⟨(w.heap.size + 2), 4, none⟩ (.int .i64 N)).cell? ⟨w.heap.size, 7, none⟩ = some (.int .i64 C) := cell_set1 (cell_set1 (cell_set1 (la7_u2) (by omega)) (by omega)) (by omega)
  have laF_W5 : ∀ o, (((u2.setCell ⟨(w.heap.size + 2), 2, none⟩ (.slice (some ⟨i, 0, none⟩) nl nl)).setCell ⟨(w.heap.size + 2), 3, none⟩ (.int .i64 T)).setCell ⟨(w.heap.size + 2), 4, none⟩ (.int .i64 N)).frozen? ⟨w.heap.size, o, none⟩ = false := fun o => frz_set1 (frz_set1 (frz_set1 ((laF_u2 o))))
  have laL_W5 : w.heap.size < (((u2.setCell ⟨(w.heap.size + 2), 2, none⟩ (.slice (some ⟨i, 0, none⟩) nl nl)).setCell ⟨(w.heap.size + 2), 3, none⟩ (.int .i64 T)).setCell ⟨(w.heap.size + 2), 4, none⟩ (.int .i64 N)).heap.size := by simpa using laL_u2
  have re0_W5 : (((u2.setCell ⟨(w.heap.size + 2), 2, none⟩ (.slice (some ⟨i, 0, none⟩) nl nl)).setCell ⟨(w.heap.size + 2), 3, none⟩ (.int .i64 T)).setCell ⟨(w.heap.size + 2), 4, none⟩ (.int .i64 N)).cell? ⟨(w.heap.size + 1), 0, none⟩ = some (.slice none 0 0) := cell_set1 (cell_set1 (cell_set1 (re0_u2) (by omega)) (by omega)) (by omega)
  have re1_W5 : (((u2.setCell ⟨(w.heap.size + 2), 2, none⟩ (.slice (some ⟨i, 0, none⟩) nl nl)).setCell ⟨(w.heap.size + 2), 3, none⟩ (.int .i64 T)).setCell ⟨(w.heap.size + 2), 4, none⟩ (.int .i64 N)).cell? ⟨(w.heap.size + 1), 1, none⟩ = some (.slice none 0 0) := cell_set1 (cell_set1 (cell_set1 (re1_u2) (by omega)) (by omega)) (by omega)
  have re2_W5 : (((u2.setCell ⟨(w.heap.size + 2), 2, none⟩ (.slice (some ⟨i, 0, none⟩) nl nl)).setCell ⟨(w.heap.size + 2), 3, none⟩ (.int .i64 T)).setCell ⟨(w.heap.size + 2), 4, none⟩ (.int .i64 N)).cell? ⟨(w.heap.size + 1), 2, none⟩ = some (.slice none 0 0) := cell_set1 (cell_set1 (cell_set1 (re2_u2) (by omega)) (by omega)) (by omega)
  have re3_W5 : (((u2.setCell ⟨(w.heap.size + 2), 2, none⟩ (.slice (some ⟨i, 0, none⟩) nl nl)).setCell ⟨(w.heap.size + 2), 3, none⟩ (.int .i64 T)).setCell ⟨(w.heap.size + 2), 4, none⟩ (.int .i64 N)).cell? ⟨(w.heap.size + 1), 3, none⟩ = some (.int .i64 0) := cell_set1 (cell_set1 (cell_set1 (re3_u2) (by omega)) (by omega)) (by omega)
  have re4_W5 : (((u2.setCell ⟨(w.heap.size + 2), 2, none⟩ (.slice (some ⟨i, 0, none⟩) nl nl)).setCell ⟨(w.heap.size + 2), 3, none⟩ (.int .i64 T)).setCell ⟨(w.heap.size + 2), 4, none⟩ (.int .i64 N)).cell? ⟨(w.heap.size + 1), 4, none⟩ = some (.int .i64 0) := cell_set1 (cell_set1 (cell_set1 (re4_u2) (by omega)) (by omega)) (by omega)
  have re5_W5 : (((u2.setCell ⟨(w.heap.size + 2), 2, none⟩ (.slice (some ⟨i, 0, none⟩) nl nl)).setCell ⟨(w.heap.size + 2), 3, none⟩ (.int .i64 T)).setCell ⟨(w.heap.size + 2), 4, none⟩ (.int .i64 N)).cell? ⟨(w.heap.size + 1), 5, none⟩ = some (.slice none 0 0) := cell_set1 (cell_set1 (cell_set1 (re5_u2) (by omega)) (by omega)) (by omega)
  have re6_W5 : (((u2.setCell ⟨(w.heap.size + 2), 2, none⟩ (.slice (some ⟨i, 0, none⟩) nl nl)).setCell ⟨(w.heap.size + 2), 3, none⟩ (.int .i64 T)).setCell ⟨(w.heap.size + 2), 4, none⟩ (.int .i64 N)).cell? ⟨(w.heap.size + 1), 6, none⟩ = some (.int .i64 0) := cell_set1 (cell_set1 (cell_set1 (re6_u2) (by omega)) (by omega)) (by omega)
  have re7_W5 : (((u2.setCell ⟨(w.heap.size + 2), 2, none⟩ (.slice (some ⟨i, 0, none⟩) nl nl)).setCell ⟨(w.heap.size + 2), 3, none⟩ (.int .i64 T)).setCell ⟨(w.heap.size + 2), 4, none⟩ (.int .i64 N)).cell? ⟨(w.heap.size + 1), 7, none⟩ = some (.int .i64 0) := cell_set1 (cell_set1 (cell_set1 (re7_u2) (by omega)) (by omega)) (by omega)
  have reF_W5 : ∀ o, (((u2.setCell ⟨(w.heap.size + 2), 2, none⟩ (.slice (some ⟨i, 0, none⟩) nl nl)).setCell ⟨(w.heap.size + 2), 3, none⟩ (.int .i64 T)).setCell ⟨(w.heap.size + 2), 4, none⟩ (.int .i64 N)).frozen? ⟨(w.heap.size + 1), o, none⟩ = false := fun o => frz_set1 (frz_set1 (frz_set1 ((reF_u2 o))))
  have reL_W5 : (w.heap.size + 1) < (((u2.setCell ⟨(w.heap.size + 2), 2, none⟩ (.slice (some ⟨i, 0, none⟩) nl nl)).setCell ⟨(w.heap.size + 2), 3, none⟩ (.int .i64 T)).setCell ⟨(w.heap.size + 2), 4, none⟩ (.int .i64 N)).heap.size := by simpa using reL_u2
  have ouF_W5 : ∀ o, (((u2.setCell ⟨(w.heap.size + 2), 2, none⟩ (.slice (some ⟨i, 0, none⟩) nl nl)).setCell ⟨(w.heap.size + 2), 3, none⟩ (.int .i64 T)).setCell ⟨(w.heap.size + 2), 4, none⟩ (.int .i64 N)).frozen? ⟨(w.heap.size + 2), o, none⟩ = false := fun o => frz_set1 (frz_set1 (frz_set1 ((ouF_u2 o))))
  have ouL_W5 : (w.heap.size + 2) < (((u2.setCell ⟨(w.heap.size + 2), 2, none⟩ (.slice (some ⟨i, 0, none⟩) nl nl)).setCell ⟨(w.heap.size + 2), 3, none⟩ (.int .i64 T)).setCell ⟨(w.heap.size + 2), 4, none⟩ (.int .i64 N)).heap.size := by simpa using ouL_u2
  have oG_W5 : Hid (OwnG KPl 86 (((u2.setCell ⟨(w.heap.size + 2), 2, none⟩ (.slice (some ⟨i, 0, none⟩) nl nl)).setCell ⟨(w.heap.size + 2), 3, none⟩ (.int .i64 T)).setCell ⟨(w.heap.size + 2), 4, none⟩ (.int .i64 N)) (w.heap.size + 3) (.slice (some ⟨g, 0, none⟩) np np) (ps)) := hidP (OwnG.grown (OwnG.grown (OwnG.grown (oG_u2.out) (grown_cellG _ _ _ _) (OwnG.ne_of oG_u2.out (by omega))) (grown_cellG _ _ _ _) (OwnG.ne_of oG_u2.out (by omega))) (grown_cellG _ _ _ _) (OwnG.ne_of oG_u2.out (by omega)))
  have oH_W5 : Hid (OwnG KBk 67 (((u2.setCell ⟨(w.heap.size + 2), 2, none⟩ (.slice (some ⟨i, 0, none⟩) nl nl)).setCell ⟨(w.heap.size + 2), 3, none⟩ (.int .i64 T)).setCell ⟨(w.heap.size + 2), 4, none⟩ (.int .i64 N)) (w.heap.size + 3) (.slice (some ⟨h, 0, none⟩) nb nb) (bs)) := hidP (OwnG.grown (OwnG.grown (OwnG.grown (oH_u2.out) (grown_cellG _ _ _ _) (OwnG.ne_of oH_u2.out (by omega))) (grown_cellG _ _ _ _) (OwnG.ne_of oH_u2.out (by omega))) (grown_cellG _ _ _ _) (OwnG.ne_of oH_u2.out (by omega)))
  have oI_W5 : Hid (OwnG KLs 71 (((u2.setCell ⟨(w.heap.size + 2), 2, none⟩ (.slice (some ⟨i, 0, none⟩) nl nl)).setCell ⟨(w.heap.size + 2), 3, none⟩ (.int .i64 T)).setCell ⟨(w.heap.size + 2), 4, none⟩ (.int .i64 N)) (w.heap.size + 3) (.slice (some ⟨i, 0, none⟩) nl nl) (ls)) := hidP (OwnG.grown (OwnG.grown (OwnG.grown (oI_u2.out) (grown_cellG _ _ _ _) (OwnG.ne_of oI_u2.out (by omega))) (grown_cellG _ _ _ _) (OwnG.ne_of oI_u2.out (by omega))) (grown_cellG _ _ _ _) (OwnG.ne_of oI_u2.out (by omega)))
  have acc_W5 : Hid (Below w.heap.size w (((u2.setCell ⟨(w.heap.size + 2), 2, none⟩ (.slice (some ⟨i, 0, none⟩) nl nl)).setCell ⟨(w.heap.size + 2), 3, none⟩ (.int .i64 T)).setCell ⟨(w.heap.size + 2), 4, none⟩ (.int .i64 N))) := hidP (Below.setCell (Below.setCell (Below.setCell (acc_u2.out) (by try dsimp only; omega) _) (by try dsimp only; omega) _) (by try dsimp only; omega) _)
  have sz_W5 : Hid ((((u2.setCell ⟨(w.heap.size + 2), 2, none⟩ (.slice (some ⟨i, 0, none⟩) nl nl)).setCell ⟨(w.heap.size + 2), 3, none⟩ (.int .i64 T)).setCell ⟨(w.heap.size + 2), 4, none⟩ (.int .i64 N)).heap.size = u2.heap.size) := hidP (by simp)
  generalize ((u2.setCell ⟨(w.heap.size + 2), 2, none⟩ (.slice (some ⟨i, 0, none⟩) nl nl)).setCell ⟨(w.heap.size + 2), 3, none⟩ (.int .i64 T)).setCell ⟨(w.heap.size + 2), 4, none⟩ (.int .i64 N) = W5 at *
  clear ou0_u2 ou1_u2 ou2_u2 ou3_u2 ou4_u2 ou5_u2 ou6_u2 ou7_u2 la0_u2 la1_u2 la2_u2 la3_u2 la4_u2 la5_u2 la6_u2 la7_u2 laF_u2 laL_u2 re0_u2 re1_u2 re2_u2 re3_u2 re4_u2 re5_u2 re6_u2 re7_u2 reF_u2 reL_u2 ouF_u2 ouL_u2 oG_u2 oH_u2 oI_u2 acc_u2
  refine (HD.out _ acc_W5.out).mono ?_
  rintro e u3 ⟨j, rfl, oj, hb3⟩
  have OJ := hidP oj
  clear oj
  have la0_u3 := (hb3.cell laL_W5).trans la0_W5
  have la1_u3 := (hb3.cell laL_W5).trans la1_W5
  have la2_u3 := (hb3.cell laL_W5).trans la2_W5
  have la3_u3 := (hb3.cell laL_W5).trans la3_W5
  have la4_u3 := (hb3.cell laL_W5).trans la4_W5
  have la5_u3 := (hb3.cell laL_W5).trans la5_W5
  have la6_u3 := (hb3.cell laL_W5).trans la6_W5
  have la7_u3 := (hb3.cell laL_W5).trans la7_W5
  have laF_u3 : ∀ o, u3.frozen? ⟨w.heap.size, o, none⟩ = false := fun o => (hb3.frozen laL_W5).trans (laF_W5 o)
  have laL_u3 : w.heap.size < u3.heap.size := Nat.lt_of_lt_of_le laL_W5 hb3.size
  have re0_u3 := (hb3.cell reL_W5).trans re0_W5
  have re1_u3 := (hb3.cell reL_W5).trans re1_W5
  have re2_u3 := (hb3.cell reL_W5).trans re2_W5
  have re3_u3 := (hb3.cell reL_W5).trans re3_W5
  have re4_u3 := (hb3.cell reL_W5).trans re4_W5
  have re5_u3 := (hb3.cell reL_W5).trans re5_W5
  have re6_u3 := (hb3.cell reL_W5).trans re6_W5
  have re7_u3 := (hb3.cell reL_W5).trans re7_W5
  have reF_u3 : ∀ o, u3.frozen? ⟨(w.heap.size + 1), o, none⟩ = false := fun o => (hb3.frozen reL_W5).trans (reF_W5 o)
  have reL_u3 : (w.heap.size + 1) < u3.heap.size := Nat.lt_of_lt_of_le reL_W5 hb3.size
  have ou0_u3 := (hb3.cell ouL_W5).trans ou0_W5
  have ou1_u3 := (hb3.cell ouL_W5).trans ou1_W5
  have ou2_u3 := (hb3.cell ouL_W5).trans ou2_W5
  have ou3_u3 := (hb3.cell ouL_W5).trans ou3_W5
  have ou4_u3 := (hb3.cell ouL_W5).trans ou4_W5
  have ou5_u3 := (hb3.cell ouL_W5).trans ou5_W5
  have ou6_u3 := (hb3.cell ouL_W5).trans ou6_W5
  have ou7_u3 := (hb3.cell ouL_W5).trans ou7_W5
  have ouF_u3 : ∀ o, u3.frozen? ⟨(w.heap.size + 2), o, none⟩ = false := fun o => (hb3.frozen ouL_W5).trans (ouF_W5 o)
  have ouL_u3 : (w.heap.size + 2) < u3.heap.size := Nat.lt_of_lt_of_le ouL_W5 hb3.size
  have oG_u3 := hidP (OwnG.later oG_W5.out hb3)
  have oH_u3 := hidP (OwnG.later oH_W5.out hb3)
  have oI_u3 := hidP (OwnG.later oI_W5.out hb3)
  have acc_u3 := hidP (acc_W5.out.trans (hb3.mono acc_W5.out.size))
  have sz_u3 : Hid (W5.heap.size ≤ u3.heap.size) := hidP hb3.size
  clear hb3 la0_W5 la1_W5 la2_W5 la3_W5 la4_W5 la5_W5 la6_W5 la7_W5 laF_W5 laL_W5 re0_W5 re1_W5 re2_W5 re3_W5 re4_W5 re5_W5 re6_W5 re7_W5 reF_W5 reL_W5 ou0_W5 ou1_W5 ou2_W5 ou3_W5 ou4_W5 ou5_W5 ou6_W5 ou7_W5 ouF_W5 ouL_W5 oG_W5 oH_W5 oI_W5 acc_W5
  have oJ_u3 := hidP (OJ.out.mono (B' := w.heap.size + 3) (by have := as_W1.out; have := sz_W1.out; have := as_W2.out; have := sz_W2.out; have := as_W3.out; have := sz_W3.out; have := Wz.out; have := sz_u1.out; have := sz_W4.out; have := sz_u2.out; have := sz_W5.out; have := sz_u3.out; omega))
  clear OJ
  go_wp2_with fail
  have ou0_W6 : (((u3.setCell ⟨(w.heap.size + 2), 5, none⟩ (.slice (some ⟨j, 0, none⟩) ns ns)).setCell ⟨(w.heap.size + 2), 6, none⟩ (.int .i64 X)).setCell ⟨(w.heap.size + 2), 7, none⟩ (.int .i64 C)).cell? ⟨(w.heap.size + 2), 0, none⟩ = some (.slice (some ⟨g, 0, none⟩) np np) := by simp [go_sem, ou0_u3]
  have ou1_W6 : (((u3.setCell ⟨(w.heap.size + 2), 5, none⟩ (.slice (some ⟨j, 0, none⟩) ns ns)).setCell ⟨(w.heap.size + 2), 6, none⟩ (.int .i64 X)).setCell ⟨(w.heap.size + 2), 7, none⟩ (.int .i64 C)).cell? ⟨(w.heap.size + 2), 1, none⟩ = some (.slice (some ⟨h, 0, none⟩) nb nb) := by simp [go_sem, ou1_u3]
  have ou2_W6 : (((u3.setCell ⟨(w.heap.size + 2), 5, none⟩ (.slice (some ⟨j, 0, none⟩) ns ns)).setCell ⟨(w.heap.size + 2), 6, none⟩ (.int .i64 X)).setCell ⟨(w.heap.size + 2), 7, none⟩ (.int .i64 C)).cell? ⟨(w.heap.size + 2), 2, none⟩ = some (.slice (some ⟨i, 0, none⟩) nl nl) := by simp [go_sem, ou2_u3]
  have ou3_W6 : (((u3.setCell ⟨(w.heap.size + 2), 5, none⟩ (.slice (some ⟨j, 0, none⟩) ns ns)).setCell ⟨(w.heap.size + 2), 6, none⟩ (.int .i64 X)).setCell ⟨(w.heap.size + 2), 7, none⟩ (.int .i64 C)).cell? ⟨(w.heap.size + 2), 3, none⟩ = some (.int .i64 T) := by simp [go_sem, ou3_u3]
  have ou4_W6 : (((u3.setCell ⟨(w.heap.size + 2), 5, none⟩ (.slice (some ⟨j, 0, none⟩) ns ns)).setCell ⟨(w.heap.size + 2), 6, none⟩ (.int .i64 X)).setCell ⟨(w.heap.size + 2), 7, none⟩ (.int .i64 C)).cell? ⟨(w.heap.size + 2), 4, none⟩ = some (.int .i64 N) := by simp [go_sem, ou4_u3]
  have ou5_W6 : (((u3.setCell ⟨(w.heap.size + 2), 5, none⟩ (.slice (some ⟨j, 0, none⟩) ns ns)).setCell ⟨(w.heap.size + 2), 6, none⟩ (.int .i64 X)).setCell ⟨(w.heap.size + 2), 7, none⟩ (.int .i64 C)).cell? ⟨(w.heap.size + 2), 5, none⟩ = some (.slice (some ⟨j, 0, none⟩) ns ns) := by simp [go_sem, ou5_u3]
  have ou6_W6 : (((u3.setCell ⟨(w.heap.size + 2), 5, none⟩ (.slice (some ⟨j, 0, none⟩) ns ns)).setCell ⟨(w.heap.size + 2), 6, none⟩ (.int .i64 X)).setCell ⟨(w.heap.size + 2), 7, none⟩ (.int .i64 C)).cell? ⟨(w.heap.size + 2), 6, none⟩ = some (.int .i64 X) := by simp [go_sem, ou6_u3]
  have ou7_W6 : (((u3.setCell ⟨(w.heap.size + 2), 5, none⟩ (.slice (some ⟨j, 0, none⟩) ns ns)).setCell ⟨(w.heap.size + 2), 6, none⟩ (.int .i64 X)).setCell ⟨(w.heap.size + 2), 7, none⟩ (.int .i64 C)).cell? ⟨(w.heap.size + 2), 7, none⟩ = some (.int .i64 C) := by simp [go_sem, ou7_u3]
  have la0_W6 : (((u3.setCell ⟨(w.heap.size + 2), 5, none⟩ (.slice (some ⟨j, 0, none⟩) ns ns)).setCell ⟨(w.heap.size + 2), 6, none⟩ (.int .i64 X)).setCell ⟨(w.heap.size + 2), 7, none⟩ (.int .i64 C)).cell? ⟨w.heap.size, 0, none⟩ = some (.slice ap np cp) := cell_set1 (cell_set1 (cell_set1 (la0_u3) (by omega)) (by omega)) (by omega)
  have la1_W6 : (((u3.setCell ⟨(w.heap.size + 2), 5, none⟩ (.slice (some ⟨j, 0, none⟩) ns ns)).setCell ⟨(w.heap.size + 2), 6, none⟩ (.int .i64 X)).setCell ⟨(w.heap.size + 2), 7, none⟩ (.int .i64 C)).cell? ⟨w.heap.size, 1, none⟩ = some (.slice ab nb cb) := cell_set1 (cell_set1 (cell_set1 (la1_u3) (by omega)) (by omega)) (by omega)
  have la2_W6 : (((u3.setCell ⟨(w.heap.size + 2), 5, none⟩ (.slice (some ⟨j, 0, none⟩) ns ns)).setCell ⟨(w.heap.size + 2), 6, none⟩ (.int .i64 X)).setCell ⟨(w.heap.size + 2), 7, none⟩ (.int .i64 C)).cell? ⟨w.heap.size, 2, none⟩ = some (.slice al nl cl) := cell_set1 (cell_set1 (cell_set1 (la2_u3) (by omega)) (by omega)) (by omega)
  have la3_W6 : (((u3.setCell ⟨(w.heap.size + 2), 5, none⟩ (.slice (some ⟨j, 0, none⟩) ns ns)).setCell ⟨(w.heap.size + 2), 6, none⟩ (.int .i64 X)).setCell ⟨(w.heap.size + 2), 7, none⟩ (.int .i64 C)).cell? ⟨w.heap.size, 3, none⟩ = some (.int .i64 T) := cell_set1 (cell_set1 (cell_set1 (la3_u3) (by omega)) (by omega)) (by omega)
  have la4_W6 : (((u3.setCell ⟨(w.heap.size + 2), 5, none⟩ (.slice (some ⟨j, 0, none⟩) ns ns)).setCell ⟨(w.heap.size + 2), 6, none⟩ (.int .i64 X)).setCell ⟨(w.heap.size + 2), 7, none⟩ (.int .i64 C)).cell? ⟨w.heap.size, 4, none⟩ = some (.int .i64 N) := cell_set1 (cell_set1 (cell_set1 (la4_u3) (by omega)) (by omega)) (by omega)
  have la5_W6 : (((u3.setCell ⟨(w.heap.size + 2), 5, none⟩ (.slice (some ⟨j, 0, none⟩) ns ns)).setCell ⟨(w.heap.size + 2), 6, none⟩ (.int .i64 X)).setCell ⟨(w.heap.size + 2), 7, none⟩ (.int .i64 C)).cell? ⟨w.heap.size, 5, none⟩ = some (.slice aS ns cs) := cell_set1 (cell_set1 (cell_set1 (la5_u3) (by omega)) (by omega)) (by omega)
  have la6_W6 : (((u3.setCell ⟨(w.heap.size + 2), 5, none⟩ (.slice (some ⟨j, 0, none⟩) ns ns)).setCell ⟨(w.heap.size + 2), 6, none⟩ (.int .i64 X)).setCell ⟨(w.heap.size + 2), 7, none⟩ (.int .i64 C)).cell? ⟨w.heap.size, 6, none⟩ = some (.int .i64 X) := cell_set1 (cell_set1 (cell_set1 (la6_u3) (by omega)) (by omega)) (by omega)
  have la7_W6 : (((u3.setCell ⟨(w.heap.size + 2), 5, none⟩ (.slice (some ⟨j, 0, none⟩) ns ns)).setCell ⟨(w.heap.size + 2), 6, none⟩ (.int .i64 X)).setCell ⟨(w.heap.size + 2), 7, none⟩ (.int .i64 C)).cell? ⟨w.heap.size, 7, none⟩ = some (.int .i64 C) := cell_set1 (cell_set1 (cell_set1 (la7_u3) (by omega)) (by omega)) (by omega)
  have laF_W6 : ∀ o, (((u3.setCell ⟨(w.heap.size + 2), 5, none⟩ (.slice (some ⟨j, 0, none⟩) ns ns)).setCell ⟨(w.heap.size + 2), 6, none⟩ (.int .i64 X)).setCell ⟨(w.heap.size + 2), 7, none⟩ (.int .i64 C)).frozen? ⟨w.heap.size, o, none⟩ = false := fun o => frz_set1 (frz_set1 (frz_set1 ((laF_u3 o))))
  have laL_W6 : w.heap.size < (((u3.setCell ⟨(w.heap.size + 2), 5, none⟩ (.slice (some ⟨j, 0, none⟩) ns ns)).setCell ⟨(w.heap.size + 2), 6, none⟩ (.int .i64 X)).setCell ⟨(w.heap.size + 2), 7, none⟩ (.int .i64 C)).heap.size := by simpa using laL_u3
  have re0_W6 : (((u3.setCell ⟨(w.heap.size + 2), 5, none⟩ (.slice (some ⟨j, 0, none⟩) ns ns)).setCell ⟨(w.heap.size + 2), 6, none⟩ (.int .i64 X)).setCell ⟨(w.heap.size + 2), 7, none⟩ (.int .i64 C)).cell? ⟨(w.heap.size + 1), 0, none⟩ = some (.slice none 0 0) := cell_set1 (cell_set1 (cell_set1 (re0_u3) (by omega)) (by omega)) (by omega)
  have re1_W6 : (((u3.setCell ⟨(w.heap.size + 2), 5, none⟩ (.slice (some ⟨j, 0, none⟩) ns ns)).setCell ⟨(w.heap.size + 2), 6, none⟩ (.int .i64 X)).setCell ⟨(w.heap.size + 2), 7, none⟩ (.int .i64 C)).cell? ⟨(w.heap.size + 1), 1, none⟩ = some (.slice none 0 0) := cell_set1 (cell_set1 (cell_set1 (re1_u3) (by omega)) (by omega)) (by omega)
  have re2_W6 : (((u3.setCell ⟨(w.heap.size + 2), 5, none⟩ (.slice (some ⟨j, 0, none⟩) ns ns)).setCell ⟨(w.heap.size + 2), 6, none⟩ (.int .i64 X)).setCell ⟨(w.heap.size + 2), 7, none⟩ (.int .i64 C)).cell? ⟨(w.heap.size + 1), 2, none⟩ = some (.slice none 0 0) := cell_set1 (cell_set1 (cell_set1 (re2_u3) (by omega)) (by omega)) (by omega)
  have re3_W6 : (((u3.setCell ⟨(w.heap.size + 2), 5, none⟩ (.slice (some ⟨j, 0, none⟩) ns ns)).setCell ⟨(w.heap.size + 2), 6, none⟩ (.int .i64 X)).setCell ⟨(w.heap.size + 2), 7, none⟩ (.int .i64 C)).cell? ⟨(w.heap.size + 1), 3, none⟩ = some (.int .i64 0) := cell_set1 (cell_set1 (cell_set1 (re3_u3) (by omega)) (by omega)) (by omega)
  have re4_W6 : (((u3.setCell ⟨(w.heap.size + 2), 5, none⟩ (.slice (some ⟨j, 0, none⟩) ns ns)).setCell ⟨(w.heap.size + 2), 6, none⟩ (.int .i64 X)).setCell ⟨(w.heap.size + 2), 7, none⟩ (.int .i64 C)).cell? ⟨(w.heap.size + 1), 4, none⟩ = some (.int .i64 0) := cell_set1 (cell_set1 (cell_set1 (re4_u3) (by omega)) (by omega)) (by omega)
  have re5_W6 : (((u3.setCell ⟨(w.heap.size + 2), 5, none⟩ (.slice (some ⟨j, 0, none⟩) ns ns)).setCell ⟨(w.heap.size + 2), 6, none⟩ (.int .i64 X)).setCell ⟨(w.heap.size + 2), 7, none⟩ (.int .i64 C)).cell? ⟨(w.heap.size + 1), 5, none⟩ = some (.slice none 0 0) := cell_set1 (cell_set1 (cell_set1 (re5_u3) (by omega)) (by omega)) (by omega)
  have re6_W6 : (((u3.setCell ⟨(w.heap.size + 2), 5, none⟩ (.slice (some ⟨j, 0, none⟩) ns ns)).setCell ⟨(w.heap.size + 2), 6, none⟩ (.int .i64 X)).setCell ⟨(w.heap.size + 2), 7, none⟩ (.int .i64 C)).cell? ⟨(w.heap.size + 1), 6, none⟩ = some (.int .i64 0) := cell_set1 (cell_set1 (cell_set1 (re6_u3) (by omega)) (by omega)) (by omega)
  have re7_W6 : (((u3.setCell ⟨(w.heap.size + 2), 5, none⟩ (.slice (some ⟨j, 0, none⟩) ns ns)).setCell ⟨(w.heap.size + 2), 6, none⟩ (.int .i64 X)).setCell ⟨(w.heap.size + 2), 7, none⟩ (.int .i64 C)).cell? ⟨(w.heap.size + 1), 7, none⟩ = some (.int .i64 0) := cell_set1 (cell_set1 (cell_set1 (re7_u3) (by omega)) (by omega)) (by omega)
  have reF_W6 : ∀ o, (((u3.setCell ⟨(w.heap.size + 2), 5, none⟩ (.slice (some ⟨j, 0, none⟩) ns ns)).setCell ⟨(w.heap.size + 2), 6, none⟩ (.int .i64 X)).setCell ⟨(w.heap.size + 2), 7, none⟩ (.int .i64 C)).frozen? ⟨(w.heap.size + 1), o, none⟩ = false := fun o => frz_set1 (frz_set1 (frz_set1 ((reF_u3 o))))
  have reL_W6 : (w.heap.size + 1) < (((u3.setCell ⟨(w.heap.size + 2), 5, none⟩ (.slice (some ⟨j, 0, none⟩) ns ns)).setCell ⟨(w.heap.size + 2), 6, none⟩ (.int .i64 X)).setCell ⟨(w.heap.size + 2), 7, none⟩ (.int .i64 C)).heap.size := by simpa using reL_u3
  have ouF_W6 : ∀ o, (((u3.setCell ⟨(w.heap.size + 2), 5, none⟩ (.slice (some ⟨j, 0, none⟩) ns ns)).setCell ⟨(w.heap.size + 2), 6, none⟩ (.int .i64 X)).setCell ⟨(w.heap.size + 2), 7, none⟩ (.int .i64 C)).frozen? ⟨(w.heap.size + 2), o, none⟩ = false := fun o => frz_set1 (frz_set1 (frz_set1 ((ouF_u3 o))))
  have ouL_W6 : (w.heap.size + 2) < (((u3.setCell ⟨(w.heap.size + 2), 5, none⟩ (.slice (some ⟨j, 0, none⟩) ns ns)).setCell ⟨(w.heap.size + 2), 6, none⟩ (.int .i64 X)).setCell ⟨(w.heap.size + 2), 7, none⟩ (.int .i64 C)).heap.size := by simpa using ouL_u3
  have oG_W6 : Hid (OwnG KPl 86 (((u3.setCell ⟨(w.heap.size + 2), 5, none⟩ (.slice (some ⟨j, 0, none⟩) ns ns)).setCell ⟨(w.heap.size + 2), 6, none⟩ (.int .i64 X)).setCell ⟨(w.heap.size + 2), 7, none⟩ (.int .i64 C)) (w.heap.size + 3) (.slice (some ⟨g, 0, none⟩) np np) (ps)) := hidP (OwnG.grown (OwnG.grown (OwnG.grown (oG_u3.out) (grown_cellG _ _ _ _) (OwnG.ne_of oG_u3.out (by omega))) (grown_cellG _ _ _ _) (OwnG.ne_of oG_u3.out (by omega))) (grown_cellG _ _ _ _) (OwnG.ne_of oG_u3.out (by omega)))
  have oH_W6 : Hid (OwnG KBk 67 (((u3.setCell ⟨(w.heap.size + 2), 5, none⟩ (.slice (some ⟨j, 0, none⟩) ns ns)).setCell ⟨(w.heap.size + 2), 6, none⟩ (.int .i64 X)).setCell ⟨(w.heap.size + 2), 7, none⟩ (.int .i64 C)) (w.heap.size + 3) (.slice (some ⟨h, 0, none⟩) nb nb) (bs)) := hidP (OwnG.grown (OwnG.grown (OwnG.grown (oH_u3.out) (grown_cellG _ _ _ _) (OwnG.ne_of oH_u3.out (by omega))) (grown_cellG _ _ _ _) (OwnG.ne_of oH_u3.out (by omega))) (grown_cellG _ _ _ _) (OwnG.ne_of oH_u3.out (by omega)))
  have oI_W6 : Hid (OwnG KLs 71 (((u3.setCell ⟨(w.heap.size + 2), 5, none⟩ (.slice (some ⟨j, 0, none⟩) ns ns)).setCell ⟨(w.heap.size + 2), 6, none⟩ (.int .i64 X)).setCell ⟨(w.heap.size + 2), 7, none⟩ (.int .i64 C)) (w.heap.size + 3) (.slice (some ⟨i, 0, none⟩) nl nl) (ls)) := hidP (OwnG.grown (OwnG.grown (OwnG.grown (oI_u3.out) (grown_cellG _ _ _ _) (OwnG.ne_of oI_u3.out (by omega))) (grown_cellG _ _ _ _) (OwnG.ne_of oI_u3.out (by omega))) (grown_cellG _ _ _ _) (OwnG.ne_of oI_u3.out (by omega)))
  have oJ_W6 : Hid (OwnG KSs 96 (((u3.setCell ⟨(w.heap.size + 2), 5, none⟩ (.slice (some ⟨j, 0, none⟩) ns ns)).setCell ⟨(w.heap.size + 2), 6, none⟩ (.int .i64 X)).setCell ⟨(w.heap.size + 2), 7, none⟩ (.int .i64 C)) (w.heap.size + 3) (.slice (some ⟨j, 0, none⟩) ns ns) (ss)) := hidP (OwnG.grown (OwnG.grown (OwnG.grown (oJ_u3.out) (grown_cellG _ _ _ _) (OwnG.ne_of oJ_u3.out (by omega))) (grown_cellG _ _ _ _) (OwnG.ne_of oJ_u3.out (by omega))) (grown_cellG _ _ _ _) (OwnG.ne_of oJ_u3.out (by omega)))
  have acc_W6 : Hid (Below w.heap.size w (((u3.setCell ⟨(w.heap.size + 2), 5, none⟩ (.slice (some ⟨j, 0, none⟩) ns ns)).setCell ⟨(w.heap.size + 2), 6, none⟩ (.int .i64 X)).setCell ⟨(w.heap.size + 2), 7, none⟩ (.int .i64 C))) := hidP (Below.setCell (Below.setCell (Below.setCell (acc_u3.out) (by try dsimp only; omega) _) (by try dsimp only; omega) _) (by try dsimp only; omega) _)
  have sz_W6 : Hid ((((u3.setCell ⟨(w.heap.size + 2), 5, none⟩ (.slice (some ⟨j, 0, none⟩) ns ns)).setCell ⟨(w.heap.size + 2), 6, none⟩ (.int .i64 X)).setCell ⟨(w.heap.size + 2), 7, none⟩ (.int .i64 C)).heap.size = u3.heap.size) := hidP (by simp)
  generalize ((u3.setCell ⟨(w.heap.size + 2), 5, none⟩ (.slice (some ⟨j, 0, none⟩) ns ns)).setCell ⟨(w.heap.size + 2), 6, none⟩ (.int .i64 X)).setCell ⟨(w.heap.size + 2), 7, none⟩ (.int .i64 C) = W6 at *
  clear ou0_u3 ou1_u3 ou2_u3 ou3_u3 ou4_u3 ou5_u3 ou6_u3 ou7_u3 la0_u3 la1_u3 la2_u3 la3_u3 la4_u3 la5_u3 la6_u3 la7_u3 laF_u3 laL_u3 re0_u3 re1_u3 re2_u3 re3_u3 re4_u3 re5_u3 re6_u3 re7_u3 reF_u3 reL_u3 ouF_u3 ouL_u3 oG_u3 oH_u3 oI_u3 oJ_u3 acc_u3
  clear la0_W6 la1_W6 la2_W6 la3_W6 la4_W6 la5_W6 la6_W6 la7_W6 laF_W6 laL_W6
  clear ou0_W6 ou1_W6 ou2_W6 ou3_W6 ou4_W6 ou5_W6 ou6_W6 ou7_W6 ouF_W6 ouL_W6
  have re0_W7 : ((((((((W6.setCell ⟨(w.heap.size + 1), 0, none⟩ (.slice (some ⟨g, 0, none⟩) np np)).setCell ⟨(w.heap.size + 1), 1, none⟩ (.slice (some ⟨h, 0, none⟩) nb nb)).setCell ⟨(w.heap.size + 1), 2, none⟩ (.slice (some ⟨i, 0, none⟩) nl nl)).setCell ⟨(w.heap.size + 1), 3, none⟩ (.int .i64 T)).setCell ⟨(w.heap.size + 1), 4, none⟩ (.int .i64 N)).setCell ⟨(w.heap.size + 1), 5, none⟩ (.slice (some ⟨j, 0, none⟩) ns ns)).setCell ⟨(w.heap.size + 1), 6, none⟩ (.int .i64 X)).setCell ⟨(w.heap.size + 1), 7, none⟩ (.int .i64 C)).cell? ⟨(w.heap.size + 1), 0, none⟩ = some (.slice (some ⟨g, 0, none⟩) np np) := by simp [go_sem, re0_W6]
  have re1_W7 : ((((((((W6.setCell ⟨(w.heap.size + 1), 0, none⟩ (.slice (some ⟨g, 0, none⟩) np np)).setCell ⟨(w.heap.size + 1), 1, none⟩ (.slice (some ⟨h, 0, none⟩) nb nb)).setCell ⟨(w.heap.size + 1), 2, none⟩ (.slice (some ⟨i, 0, none⟩) nl nl)).setCell ⟨(w.heap.size + 1), 3, none⟩ (.int .i64 T)).setCell ⟨(w.heap.size + 1), 4, none⟩ (.int .i64 N)).setCell ⟨(w.heap.size + 1), 5, none⟩ (.slice (some ⟨j, 0, none⟩) ns ns)).setCell ⟨(w.heap.size + 1), 6, none⟩ (.int .i64 X)).setCell ⟨(w.heap.size + 1), 7, none⟩ (.int .i64 C)).cell? ⟨(w.heap.size + 1), 1, none⟩ = some (.slice (some ⟨h, 0, none⟩) nb nb) := by simp [go_sem, re1_W6]
  have re2_W7 : ((((((((W6.setCell ⟨(w.heap.size + 1), 0, none⟩ (.slice (some ⟨g, 0, none⟩) np np)).setCell ⟨(w.heap.size + 1), 1, none⟩ (.slice (some ⟨h, 0, none⟩) nb nb)).setCell ⟨(w.heap.size + 1), 2, none⟩ (.slice (some ⟨i, 0, none⟩) nl nl)).setCell ⟨(w.heap.size + 1), 3, none⟩ (.int .i64 T)).setCell ⟨(w.heap.size + 1), 4, none⟩ (.int .i64 N)).setCell ⟨(w.heap.size + 1), 5, none⟩ (.slice (some ⟨j, 0, none⟩) ns ns)).setCell ⟨(w.heap.size + 1), 6, none⟩ (.int .i64 X)).setCell ⟨(w.heap.size + 1), 7, none⟩ (.int .i64 C)).cell? ⟨(w.heap.size + 1), 2, none⟩ = some (.slice (some ⟨i, 0, none⟩) nl nl) := by simp [go_sem, re2_W6]
  have re3_W7 : ((((((((W6.setCell ⟨(w.heap.size + 1), 0, none⟩ (.slice (some ⟨g, 0, none⟩) np np)).setCell ⟨(w.heap.size + 1), 1, none⟩ (.slice (some ⟨h, 0, none⟩) nb nb)).setCell ⟨(w.heap.size + 1), 2, none⟩ (.slice (some ⟨i, 0, none⟩) nl nl)).setCell ⟨(w.heap.size + 1), 3, none⟩ (.int .i64 T)).setCell ⟨(w.heap.size + 1), 4, none⟩ (.int .i64 N)).setCell ⟨(w.heap.size + 1), 5, none⟩ (.slice (some ⟨j, 0, none⟩) ns ns)).setCell ⟨(w.heap.size + 1), 6, none⟩ (.int .i64 X)).setCell ⟨(w.heap.size + 1), 7, none⟩ (.int .i64 C)).cell? ⟨(w.heap.size + 1), 3, none⟩ = some (.int .i64 T) := by simp [go_sem, re3_W6]
  have re4_W7 : ((((((((W6.setCell ⟨(w.heap.size + 1), 0, none⟩ (.slice (some ⟨g, 0, none⟩) np np)).setCell ⟨(w.heap.size + 1), 1, none⟩ (.slice (some ⟨h, 0, none⟩) nb nb)).setCell ⟨(w.heap.size + 1), 2, none⟩ (.slice (some ⟨i, 0, none⟩) nl nl)).setCell ⟨(w.heap.size + 1), 3, none⟩ (.int .i64 T)).setCell ⟨(w.heap.size + 1), 4, none⟩ (.int .i64 N)).setCell ⟨(w.heap.size + 1), 5, none⟩ (.slice (some ⟨j, 0, none⟩) ns ns)).setCell ⟨(w.heap.size + 1), 6, none⟩ (.int .i64 X)).setCell ⟨(w.heap.size + 1), 7, none⟩ (.int .i64 C)).cell? ⟨(w.heap.size + 1), 4, none⟩ = some (.int .i64 N) := by simp [go_sem, re4_W6]
  have re5_W7 : ((((((((W6.setCell ⟨(w.heap.size + 1), 0, none⟩ (.slice (some ⟨g, 0, none⟩) np np)).setCell ⟨(w.heap.size + 1), 1, none⟩ (.slice (some ⟨h, 0, none⟩) nb nb)).setCell ⟨(w.heap.size + 1), 2, none⟩ (.slice (some ⟨i, 0, none⟩) nl nl)).setCell ⟨(w.heap.size + 1), 3, none⟩ (.int .i64 T)).setCell ⟨(w.heap.size + 1), 4, none⟩ (.int .i64 N)).setCell ⟨(w.heap.size + 1), 5, none⟩ (.slice (some ⟨j, 0, none⟩) ns ns)).setCell ⟨(w.heap.size + 1), 6, none⟩ (.int .i64 X)).setCell ⟨(w.heap.size + 1), 7, none⟩ (.int .i64 C)).cell? ⟨(w.heap.size + 1), 5, none⟩ = some (.slice (some ⟨j, 0, none⟩) ns ns) := by simp [go_sem, re5_W6]
  have re6_W7 : ((((((((W6.setCell ⟨(w.heap.size + 1), 0, none⟩ (.slice (some ⟨g, 0, none⟩) np np)).setCell ⟨(w.heap.size + 1), 1, none⟩ (.slice (some ⟨h, 0, none⟩) nb nb)).setCell ⟨(w.heap.size + 1), 2, none⟩ (.slice (some ⟨i, 0, none⟩) nl nl)).setCell ⟨(w.heap.size + 1), 3, none⟩ (.int .i64 T)).setCell ⟨(w.heap.size + 1), 4, none⟩ (.int .i64 N)).setCell ⟨(w.heap.size + 1), 5, none⟩ (.slice (some ⟨j, 0, none⟩) ns ns)).setCell ⟨(w.heap.size + 1), 6, none⟩ (.int .i64 X)).setCell ⟨(w.heap.size + 1), 7, none⟩ (.int .i64 C)).cell? ⟨(w.heap.size + 1), 6, none⟩ = some (.int .i64 X) := by simp [go_sem, re6_W6]
  have re7_W7 : ((((((((W6.setCell ⟨(w.heap.size + 1), 0, none⟩ (.slice (some ⟨g, 0, none⟩) np np)).setCell ⟨(w.heap.size + 1), 1, none⟩ (.slice (some ⟨h, 0, none⟩) nb nb)).setCell ⟨(w.heap.size + 1), 2, none⟩ (.slice (some ⟨i, 0, none⟩) nl nl)).setCell ⟨(w.heap.size + 1), 3, none⟩ (.int .i64 T)).setCell ⟨(w.heap.size + 1), 4, none⟩ (.int .i64 N)).setCell ⟨(w.heap.size + 1), 5, none⟩ (.slice (some ⟨j, 0, none⟩) ns ns)).setCell ⟨(w.heap.size + 1), 6, none⟩ (.int .i64 X)).setCell ⟨(w.heap.size + 1), 7, none⟩ (.int .i64 C)).cell? ⟨(w.heap.size + 1), 7, none⟩ = some (.int .i64 C) := by simp [go_sem, re7_W6]
  have reF_W7 : ∀ o, ((((((((W6.setCell ⟨(w.heap.size + 1), 0, none⟩ (.slice (some ⟨g, 0, none⟩) np np)).setCell ⟨(w.heap.size + 1), 1, none⟩ (.slice (some ⟨h, 0, none⟩) nb nb)).setCell ⟨(w.heap.size + 1), 2, none⟩ (.slice (some ⟨i, 0, none⟩) nl nl)).setCell ⟨(w.heap.size + 1), 3, none⟩ (.int .i64 T)).setCell ⟨(w.heap.size + 1), 4, none⟩ (.int .i64 N)).setCell ⟨(w.heap.size + 1), 5, none⟩ (.slice (some ⟨j, 0, none⟩) ns ns)).setCell ⟨(w.heap.size + 1), 6, none⟩ (.int .i64 X)).setCell ⟨(w.heap.size + 1), 7, none⟩ (.int .i64 C)).frozen? ⟨(w.heap.size + 1), o, none⟩ = false := fun o => frz_set1 (frz_set1 (frz_set1 (frz_set1 (frz_set1 (frz_set1 (frz_set1 (frz_set1 ((reF_W6 o)))))))))
  have reL_W7 : (w.heap.size + 1) < ((((((((W6.setCell ⟨(w.heap.size + 1), 0, none⟩ (.slice (some ⟨g, 0, none⟩) np np)).setCell ⟨(w.heap.size + 1), 1, none⟩ (.slice (some ⟨h, 0, none⟩) nb nb)).setCell ⟨(w.heap.size + 1), 2, none⟩ (.slice (some ⟨i, 0, none⟩) nl nl)).setCell ⟨(w.heap.size + 1), 3, none⟩ (.int .i64 T)).setCell ⟨(w.heap.size + 1), 4, none⟩ (.int .i64 N)).setCell ⟨(w.heap.size + 1), 5, none⟩ (.slice (some ⟨j, 0, none⟩) ns ns)).setCell ⟨(w.heap.size + 1), 6, none⟩ (.int .i64 X)).setCell ⟨(w.heap.size + 1), 7, none⟩ (.int .i64 C)).heap.size := by simpa using reL_W6
  have oG_W7 : Hid (OwnG KPl 86 ((((((((W6.setCell ⟨(w.heap.size + 1), 0, none⟩ (.slice (some ⟨g, 0, none⟩) np np)).setCell ⟨(w.heap.size + 1), 1, none⟩ (.slice (some ⟨h, 0, none⟩) nb nb)).setCell ⟨(w.heap.size + 1), 2, none⟩ (.slice (some ⟨i, 0, none⟩) nl nl)).setCell ⟨(w.heap.size + 1), 3, none⟩ (.int .i64 T)).setCell ⟨(w.heap.size + 1), 4, none⟩ (.int .i64 N)).setCell ⟨(w.heap.size + 1), 5, none⟩ (.slice (some ⟨j, 0, none⟩) ns ns)).setCell ⟨(w.heap.size + 1), 6, none⟩ (.int .i64 X)).setCell ⟨(w.heap.size + 1), 7, none⟩ (.int .i64 C)) (w.heap.size + 3) (.slice (some ⟨g, 0, none⟩) np np) (ps)) := hidP (OwnG.grown (OwnG.grown (OwnG.grown (OwnG.grown (OwnG.grown (OwnG.grown (OwnG.grown (OwnG.grown (oG_W6.out) (grown_cellG _ _ _ _) (OwnG.ne_of oG_W6.out (by omega))) (grown_cellG _ _ _ _) (OwnG.ne_of oG_W6.out (by omega))) (grown_cellG _ _ _ _) (OwnG.ne_of oG_W6.out (by omega))) (grown_cellG _ _ _ _) (OwnG.ne_of oG_W6.out (by omega))) (grown_cellG _ _ _ _) (OwnG.ne_of oG_W6.out (by omega))) (grown_cellG _ _ _ _) (OwnG.ne_of oG_W6.out (by omega))) (grown_cellG _ _ _ _) (OwnG.ne_of oG_W6.out (by omega))) (grown_cellG _ _ _ _) (OwnG.ne_of oG_W6.out (by omega)))
  have oH_W7 : Hid (OwnG KBk 67 ((((((((W6.setCell ⟨(w.heap.size + 1), 0, none⟩ (.slice (some ⟨g, 0, none⟩) np np)).setCell ⟨(w.heap.size + 1), 1, none⟩ (.slice (some ⟨h, 0, none⟩) nb nb)).setCell ⟨(w.heap.size + 1), 2, none⟩ (.slice (some ⟨i, 0, none⟩) nl nl)).setCell ⟨(w.heap.size + 1), 3, none⟩ (.int .i64 T)).setCell ⟨(w.heap.size + 1), 4, none⟩ (.int .i64 N)).setCell ⟨(w.heap.size + 1), 5, none⟩ (.slice (some ⟨j, 0, none⟩) ns ns)).setCell ⟨(w.heap.size + 1), 6, none⟩ (.int .i64 X)).setCell ⟨(w.heap.size + 1), 7, none⟩ (.int .i64 C)) (w.heap.size + 3) (.slice (some ⟨h, 0, none⟩) nb nb) (bs)) := hidP (OwnG.grown (OwnG.grown (OwnG.grown (OwnG.grown (OwnG.grown (OwnG.grown (OwnG.grown (OwnG.grown (oH_W6.out) (grown_cellG _ _ _ _) (OwnG.ne_of oH_W6.out (by omega))) (grown_cellG _ _ _ _) (OwnG.ne_of oH_W6.out (by omega))) (grown_cellG _ _ _ _) (OwnG.ne_of oH_W6.out (by omega))) (grown_cellG _ _ _ _) (OwnG.ne_of oH_W6.out (by omega))) (grown_cellG _ _ _ _) (OwnG.ne_of oH_W6.out (by omega))) (grown_cellG _ _ _ _) (OwnG.ne_of oH_W6.out (by omega))) (grown_cellG _ _ _ _) (OwnG.ne_of oH_W6.out (by omega))) (grown_cellG _ _ _ _) (OwnG.ne_of oH_W6.out (by omega)))
  have oI_W7 : Hid (OwnG KLs 71 ((((((((W6.setCell ⟨(w.heap.size + 1), 0, none⟩ (.slice (some ⟨g, 0, none⟩) np np)).setCell ⟨(w.heap.size + 1), 1, none⟩ (.slice (some ⟨h, 0, none⟩) nb nb)).setCell ⟨(w.heap.size + 1), 2, none⟩ (.slice (some ⟨i, 0, none⟩) nl nl)).setCell ⟨(w.heap.size + 1), 3, none⟩ (.int .i64 T)).setCell ⟨(w.heap.size + 1), 4, none⟩ (.int .i64 N)).setCell ⟨(w.heap.size + 1), 5, none⟩ (.slice (some ⟨j, 0, none⟩) ns ns)).setCell ⟨(w.heap.size + 1), 6, none⟩ (.int .i64 X)).setCell ⟨(w.heap.size + 1), 7, none⟩ (.int .i64 C)) (w.heap.size + 3) (.slice (some ⟨i, 0, none⟩) nl nl) (ls)) := hidP (OwnG.grown (OwnG.grown (OwnG.grown (OwnG.grown (OwnG.grown (OwnG.grown (OwnG.grown (OwnG.grown (oI_W6.out) (grown_cellG _ _ _ _) (OwnG.ne_of oI_W6.out (by omega))) (grown_cellG _ _ _ _) (OwnG.ne_of oI_W6.out (by omega))) (grown_cellG _ _ _ _) (OwnG.ne_of oI_W6.out (by omega))) (grown_cellG _ _ _ _) (OwnG.ne_of oI_W6.out (by omega))) (grown_cellG _ _ _ _) (OwnG.ne_of oI_W6.out (by omega))) (grown_cellG _ _ _ _) (OwnG.ne_of oI_W6.out (by omega))) (grown_cellG _ _ _ _) (OwnG.ne_of oI_W6.out (by omega))) (grown_cellG _ _ _ _) (OwnG.ne_of oI_W6.out (by omega)))
  have oJ_W7 : Hid (OwnG KSs 96 ((((((((W6.setCell ⟨(w.heap.size + 1), 0, none⟩ (.slice (some ⟨g, 0, none⟩) np np)).setCell ⟨(w.heap.size + 1), 1, none⟩ (.slice (some ⟨h, 0, none⟩) nb nb)).setCell ⟨(w.heap.size + 1), 2, none⟩ (.slice (some ⟨i, 0, none⟩) nl nl)).setCell ⟨(w.heap.size + 1), 3, none⟩ (.int .i64 T)).setCell ⟨(w.heap.size + 1), 4, none⟩ (.int .i64 N)).setCell ⟨(w.heap.size + 1), 5, none⟩ (.slice (some ⟨j, 0, none⟩) ns ns)).setCell ⟨(w.heap.size + 1), 6, none⟩ (.int .i64 X)).setCell ⟨(w.heap.size + 1), 7, none⟩ (.int .i64 C)) (w.heap.size + 3) (.slice (some ⟨j, 0, none⟩) ns ns) (ss)) := hidP (OwnG.grown (OwnG.grown (OwnG.grown (OwnG.grown (OwnG.grown (OwnG.grown (OwnG.grown (OwnG.grown (oJ_W6.out) (grown_cellG _ _ _ _) (OwnG.ne_of oJ_W6.out (by omega))) (grown_cellG _ _ _ _) (OwnG.ne_of oJ_W6.out (by omega))) (grown_cellG _ _ _ _) (OwnG.ne_of oJ_W6.out (by omega))) (grown_cellG _ _ _ _) (OwnG.ne_of oJ_W6.out (by omega))) (grown_cellG _ _ _ _) (OwnG.ne_of oJ_W6.out (by omega))) (grown_cellG _ _ _ _) (OwnG.ne_of oJ_W6.out (by omega))) (grown_cellG _ _ _ _) (OwnG.ne_of oJ_W6.out (by omega))) (grown_cellG _ _ _ _) (OwnG.ne_of oJ_W6.out (by omega)))
  have acc_W7 : Hid (Below w.heap.size w ((((((((W6.setCell ⟨(w.heap.size + 1), 0, none⟩ (.slice (some ⟨g, 0, none⟩) np np)).setCell ⟨(w.heap.size + 1), 1, none⟩ (.slice (some ⟨h, 0, none⟩) nb nb)).setCell ⟨(w.heap.size + 1), 2, none⟩ (.slice (some ⟨i, 0, none⟩) nl nl)).setCell ⟨(w.heap.size + 1), 3, none⟩ (.int .i64 T)).setCell ⟨(w.heap.size + 1), 4, none⟩ (.int .i64 N)).setCell ⟨(w.heap.size + 1), 5, none⟩ (.slice (some ⟨j, 0, none⟩) ns ns)).setCell ⟨(w.heap.size + 1), 6, none⟩ (.int .i64 X)).setCell ⟨(w.heap.size + 1), 7, none⟩ (.int .i64 C))) := hidP (Below.setCell (Below.setCell (Below.setCell (Below.setCell (Below.setCell (Below.setCell (Below.setCell (Below.setCell (acc_W6.out) (by try dsimp only; omega) _) (by try dsimp only; omega) _) (by try dsimp only; omega) _) (by try dsimp only; omega) _) (by try dsimp only; omega) _) (by try dsimp only; omega) _) (by try dsimp only; omega) _) (by try dsimp only; omega) _)
  have sz_W7 : Hid (((((((((W6.setCell ⟨(w.heap.size + 1), 0, none⟩ (.slice (some ⟨g, 0, none⟩) np np)).setCell ⟨(w.heap.size + 1), 1, none⟩ (.slice (some ⟨h, 0, none⟩) nb nb)).setCell ⟨(w.heap.size + 1), 2, none⟩ (.slice (some ⟨i, 0, none⟩) nl nl)).setCell ⟨(w.heap.size + 1), 3, none⟩ (.int .i64 T)).setCell ⟨(w.heap.size + 1), 4, none⟩ (.int .i64 N)).setCell ⟨(w.heap.size + 1), 5, none⟩ (.slice (some ⟨j, 0, none⟩) ns ns)).setCell ⟨(w.heap.size + 1), 6, none⟩ (.int .i64 X)).setCell ⟨(w.heap.size + 1), 7, none⟩ (.int .i64 C)).heap.size = W6.heap.size) := hidP (by simp)
  generalize (((((((W6.setCell ⟨(w.heap.size + 1), 0, none⟩ (.slice (some ⟨g, 0, none⟩) np np)).setCell ⟨(w.heap.size + 1), 1, none⟩ (.slice (some ⟨h, 0, none⟩) nb nb)).setCell ⟨(w.heap.size + 1), 2, none⟩ (.slice (some ⟨i, 0, none⟩) nl nl)).setCell ⟨(w.heap.size + 1), 3, none⟩ (.int .i64 T)).setCell ⟨(w.heap.size + 1), 4, none⟩ (.int .i64 N)).setCell ⟨(w.heap.size + 1), 5, none⟩ (.slice (some ⟨j, 0, none⟩) ns ns)).setCell ⟨(w.heap.size + 1), 6, none⟩ (.int .i64 X)).setCell ⟨(w.heap.size + 1), 7, none⟩ (.int .i64 C) = W7 at *
  clear re0_W6 re1_W6 re2_W6 re3_W6 re4_W6 re5_W6 re6_W6 re7_W6 reF_W6 reL_W6 oG_W6 oH_W6 oI_W6 oJ_W6 acc_W6
  refine bodyPost_ret (v := .agg #[.slice (some ⟨g, 0, none⟩) np np, .slice (some ⟨h, 0, none⟩) nb nb, .slice (some ⟨i, 0, none⟩) nl nl, .int .i64 T, .int .i64 N, .slice (some ⟨j, 0, none⟩) ns ns, .int .i64 X, .int .i64 C]) (by simp [results, Tryz.results7, go_sem, re0_W7, re1_W7, re2_W7, re3_W7, re4_W7, re5_W7, re6_W7, re7_W7]) rfl ⟨g, h, i, j, rfl, oG_W7.out.mono (by omega), oH_W7.out.mono (by omega), oI_W7.out.mono (by omega), oJ_W7.out.mono (by omega), acc_W7.out⟩

set_option maxRecDepth 10000 in
set_option maxHeartbeats 4000000 in
theorem eqState_same (ap : Option Addr) (np cp : Nat) (ab : Option Addr) (nb cb : Nat) (al : Option Addr) (nl cl : Nat) (T N : Int) (aS : Option Addr) (ns cs : Nat) (X C : Int) (ps : List Pl) (bs : List Bk) (ls : List Ls) (ss : List Ss) (ap' : Option Addr) (cp' : Nat) (ab' : Option Addr) (cb' : Nat) (al' : Option Addr) (cl' : Nat) (aS' : Option Addr) (cs' : Nat) (w : World) (hnp : np = ps.length) (hnb : nb = bs.length) (hnl : nl = ls.length) (hns : ns = ss.length) (hP : RowG KPl w ap ps) (hK : RowG KBk w ab bs) (hL : RowG KLs w al ls) (hS : RowG KSs w aS ss) (hP' : RowG KPl w ap' ps) (hK' : RowG KBk w ab' bs) (hL' : RowG KLs w al' ls) (hS' : RowG KSs w aS' ss) (hlp : np ≤ 9000000000) (hlb : nb ≤ 9000000000) (hll : nl ≤ 9000000000) (hls : ns ≤ 9000000000) :
    Calls Tryz.prog 9 #[.agg #[.slice ap np cp, .slice ab nb cb, .slice al nl cl, .int .i64 T, .int .i64 N, .slice aS ns cs, .int .i64 X, .int .i64 C], .agg #[.slice ap' np cp', .slice ab' nb cb', .slice al' nl cl', .int .i64 T, .int .i64 N, .slice aS' ns cs', .int .i64 X, .int .i64 C]] w fun e w' => e = .returned (.bool true) ∧ Below w.heap.size w w' := by
  have HP := hidP (fun W h => eqPlan_same ap ap' np cp cp' ab ab' nb cb cb' ps bs W hnp hnb (hP.later h) (hP'.later h) (hK.later h) (hK'.later h) hlp hlb)
  have HB := hidP (fun W h => eqBook_same al al' nl cl cl' T N ls W hnl (hL.later h) (hL'.later h) hll)
  have HD := hidP (fun W h => eqDesk_same aS aS' ns cs cs' X ss W hns (hS.later h) (hS'.later h) hls)
  clear hP hK hL hS hnp hnb hnl hns hP' hK' hL' hS'
  go_enter Tryz.func9, Tryz.ntmps9
  go_wp2_with fail
  obtain ⟨ax0_W1, ax1_W1, ax2_W1, ax3_W1, ax4_W1, ax5_W1, ax6_W1, ax7_W1⟩ := bx8 w 47 (.slice ap np cp) (.slice ab nb cb) (.slice al nl cl) (.int .i64 T) (.int .i64 N) (.slice aS ns cs) (.int .i64 X) (.int .i64 C)
  have axF_W1 : ∀ o, (w.alloc (.cells #[.slice ap np cp, .slice ab nb cb, .slice al nl cl, .int .i64 T, .int .i64 N, .slice aS ns cs, .int .i64 X, .int .i64 C] 47)).frozen? ⟨w.heap.size, o, none⟩ = false := fun o => by simp [go_sem]
  have axL_W1 : w.heap.size < (w.alloc (.cells #[.slice ap np cp, .slice ab nb cb, .slice al nl cl, .int .i64 T, .int .i64 N, .slice aS ns cs, .int .i64 X, .int .i64 C] 47)).heap.size := by simp
  have ab_W1 := alloc_below w (.cells #[.slice ap np cp, .slice ab nb cb, .slice al nl cl, .int .i64 T, .int .i64 N, .slice aS ns cs, .int .i64 X, .int .i64 C] 47)
  have as_W1 : Hid ((w.alloc (.cells #[.slice ap np cp, .slice ab nb cb, .slice al nl cl, .int .i64 T, .int .i64 N, .slice aS ns cs, .int .i64 X, .int .i64 C] 47)).heap.size = w.heap.size + 1) := hidP (by simp)
  generalize w.alloc (.cells #[.slice ap np cp, .slice ab nb cb, .slice al nl cl, .int .i64 T, .int .i64 N, .slice aS ns cs, .int .i64 X, .int .i64 C] 47) = W1 at *
  have acc_W1 := hidP (ab_W1)
  have sz_W1 : Hid (w.heap.size ≤ W1.heap.size) := hidP ab_W1.size
  clear ab_W1 
  obtain ⟨bx0_W2, bx1_W2, bx2_W2, bx3_W2, bx4_W2, bx5_W2, bx6_W2, bx7_W2⟩ := bx8 W1 47 (.slice ap' np cp') (.slice ab' nb cb') (.slice al' nl cl') (.int .i64 T) (.int .i64 N) (.slice aS' ns cs') (.int .i64 X) (.int .i64 C)
  have bxF_W2 : ∀ o, (W1.alloc (.cells #[.slice ap' np cp', .slice ab' nb cb', .slice al' nl cl', .int .i64 T, .int .i64 N, .slice aS' ns cs', .int .i64 X, .int .i64 C] 47)).frozen? ⟨W1.heap.size, o, none⟩ = false := fun o => by simp [go_sem]
  have bxL_W2 : W1.heap.size < (W1.alloc (.cells #[.slice ap' np cp', .slice ab' nb cb', .slice al' nl cl', .int .i64 T, .int .i64 N, .slice aS' ns cs', .int .i64 X, .int .i64 C] 47)).heap.size := by simp
  have ab_W2 := alloc_below W1 (.cells #[.slice ap' np cp', .slice ab' nb cb', .slice al' nl cl', .int .i64 T, .int .i64 N, .slice aS' ns cs', .int .i64 X, .int .i64 C] 47)
  have as_W2 : Hid ((W1.alloc (.cells #[.slice ap' np cp', .slice ab' nb cb', .slice al' nl cl', .int .i64 T, .int .i64 N, .slice aS' ns cs', .int .i64 X, .int .i64 C] 47)).heap.size = W1.heap.size + 1) := hidP (by simp)
  generalize W1.alloc (.cells #[.slice ap' np cp', .slice ab' nb cb', .slice al' nl cl', .int .i64 T, .int .i64 N, .slice aS' ns cs', .int .i64 X, .int .i64 C] 47) = W2 at *
  have ax0_W2 := (ab_W2.cell axL_W1).trans ax0_W1
  have ax1_W2 := (ab_W2.cell axL_W1).trans ax1_W1
  have ax2_W2 := (ab_W2.cell axL_W1).trans ax2_W1
  have ax3_W2 := (ab_W2.cell axL_W1).trans ax3_W1
  have ax4_W2 := (ab_W2.cell axL_W1).trans ax4_W1
  have ax5_W2 := (ab_W2.cell axL_W1).trans ax5_W1
  have ax6_W2 := (ab_W2.cell axL_W1).trans ax6_W1
  have ax7_W2 := (ab_W2.cell axL_W1).trans ax7_W1
  have axF_W2 : ∀ o, W2.frozen? ⟨w.heap.size, o, none⟩ = false := fun o => (ab_W2.frozen axL_W1).trans (axF_W1 o)
  have axL_W2 : w.heap.size < W2.heap.size := Nat.lt_of_lt_of_le axL_W1 ab_W2.size
  have acc_W2 := hidP (acc_W1.out.trans (ab_W2.mono acc_W1.out.size))
  have sz_W2 : Hid (W1.heap.size ≤ W2.heap.size) := hidP ab_W2.size
  clear ab_W2 ax0_W1 ax1_W1 ax2_W1 ax3_W1 ax4_W1 ax5_W1 ax6_W1 ax7_W1 axF_W1 axL_W1 acc_W1
  simp only [as_W1.out] at bx0_W2 bx1_W2 bx2_W2 bx3_W2 bx4_W2 bx5_W2 bx6_W2 bx7_W2 bxF_W2 bxL_W2
  refine (HP.out _ acc_W2.out).mono ?_
  rintro e u0 ⟨rfl, hb0⟩
  have ax0_u0 := (hb0.cell axL_W2).trans ax0_W2
  have ax1_u0 := (hb0.cell axL_W2).trans ax1_W2
  have ax2_u0 := (hb0.cell axL_W2).trans ax2_W2
  have ax3_u0 := (hb0.cell axL_W2).trans ax3_W2
  have ax4_u0 := (hb0.cell axL_W2).trans ax4_W2
  have ax5_u0 := (hb0.cell axL_W2).trans ax5_W2
  have ax6_u0 := (hb0.cell axL_W2).trans ax6_W2
  have ax7_u0 := (hb0.cell axL_W2).trans ax7_W2
  have axF_u0 : ∀ o, u0.frozen? ⟨w.heap.size, o, none⟩ = false := fun o => (hb0.frozen axL_W2).trans (axF_W2 o)
  have axL_u0 : w.heap.size < u0.heap.size := Nat.lt_of_lt_of_le axL_W2 hb0.size
  have bx0_u0 := (hb0.cell bxL_W2).trans bx0_W2
  have bx1_u0 := (hb0.cell bxL_W2).trans bx1_W2
  have bx2_u0 := (hb0.cell bxL_W2).trans bx2_W2
  have bx3_u0 := (hb0.cell bxL_W2).trans bx3_W2
  have bx4_u0 := (hb0.cell bxL_W2).trans bx4_W2
  have bx5_u0 := (hb0.cell bxL_W2).trans bx5_W2
  have bx6_u0 := (hb0.cell bxL_W2).trans bx6_W2
  have bx7_u0 := (hb0.cell bxL_W2).trans bx7_W2
  have bxF_u0 : ∀ o, u0.frozen? ⟨(w.heap.size + 1), o, none⟩ = false := fun o => (hb0.frozen bxL_W2).trans (bxF_W2 o)
  have bxL_u0 : (w.heap.size + 1) < u0.heap.size := Nat.lt_of_lt_of_le bxL_W2 hb0.size
  have acc_u0 := hidP (acc_W2.out.trans (hb0.mono acc_W2.out.size))
  have sz_u0 : Hid (W2.heap.size ≤ u0.heap.size) := hidP hb0.size
  clear hb0 ax0_W2 ax1_W2 ax2_W2 ax3_W2 ax4_W2 ax5_W2 ax6_W2 ax7_W2 axF_W2 axL_W2 bx0_W2 bx1_W2 bx2_W2 bx3_W2 bx4_W2 bx5_W2 bx6_W2 bx7_W2 bxF_W2 bxL_W2 acc_W2
  go_wp2_with fail
  refine (HB.out _ acc_u0.out).mono ?_
  rintro e u1 ⟨rfl, hb1⟩
  have ax0_u1 := (hb1.cell axL_u0).trans ax0_u0
  have ax1_u1 := (hb1.cell axL_u0).trans ax1_u0
  have ax2_u1 := (hb1.cell axL_u0).trans ax2_u0
  have ax3_u1 := (hb1.cell axL_u0).trans ax3_u0
  have ax4_u1 := (hb1.cell axL_u0).trans ax4_u0
  have ax5_u1 := (hb1.cell axL_u0).trans ax5_u0
  have ax6_u1 := (hb1.cell axL_u0).trans ax6_u0
  have ax7_u1 := (hb1.cell axL_u0).trans ax7_u0
  have axF_u1 : ∀ o, u1.frozen? ⟨w.heap.size, o, none⟩ = false := fun o => (hb1.frozen axL_u0).trans (axF_u0 o)
  have axL_u1 : w.heap.size < u1.heap.size := Nat.lt_of_lt_of_le axL_u0 hb1.size
  have bx0_u1 := (hb1.cell bxL_u0).trans bx0_u0
  have bx1_u1 := (hb1.cell bxL_u0).trans bx1_u0
  have bx2_u1 := (hb1.cell bxL_u0).trans bx2_u0
  have bx3_u1 := (hb1.cell bxL_u0).trans bx3_u0
  have bx4_u1 := (hb1.cell bxL_u0).trans bx4_u0
  have bx5_u1 := (hb1.cell bxL_u0).trans bx5_u0
  have bx6_u1 := (hb1.cell bxL_u0).trans bx6_u0
  have bx7_u1 := (hb1.cell bxL_u0).trans bx7_u0
  have bxF_u1 : ∀ o, u1.frozen? ⟨(w.heap.size + 1), o, none⟩ = false := fun o => (hb1.frozen bxL_u0).trans (bxF_u0 o)
  have bxL_u1 : (w.heap.size + 1) < u1.heap.size := Nat.lt_of_lt_of_le bxL_u0 hb1.size
  have acc_u1 := hidP (acc_u0.out.trans (hb1.mono acc_u0.out.size))
  have sz_u1 : Hid (u0.heap.size ≤ u1.heap.size) := hidP hb1.size
  clear hb1 ax0_u0 ax1_u0 ax2_u0 ax3_u0 ax4_u0 ax5_u0 ax6_u0 ax7_u0 axF_u0 axL_u0 bx0_u0 bx1_u0 bx2_u0 bx3_u0 bx4_u0 bx5_u0 bx6_u0 bx7_u0 bxF_u0 bxL_u0 acc_u0
  go_wp2_with fail
  refine (HD.out _ acc_u1.out).mono ?_
  rintro e u2 ⟨rfl, hb2⟩
  have ax0_u2 := (hb2.cell axL_u1).trans ax0_u1
  have ax1_u2 := (hb2.cell axL_u1).trans ax1_u1
  have ax2_u2 := (hb2.cell axL_u1).trans ax2_u1
  have ax3_u2 := (hb2.cell axL_u1).trans ax3_u1
  have ax4_u2 := (hb2.cell axL_u1).trans ax4_u1
  have ax5_u2 := (hb2.cell axL_u1).trans ax5_u1
  have ax6_u2 := (hb2.cell axL_u1).trans ax6_u1
  have ax7_u2 := (hb2.cell axL_u1).trans ax7_u1
  have axF_u2 : ∀ o, u2.frozen? ⟨w.heap.size, o, none⟩ = false := fun o => (hb2.frozen axL_u1).trans (axF_u1 o)
  have axL_u2 : w.heap.size < u2.heap.size := Nat.lt_of_lt_of_le axL_u1 hb2.size
  have bx0_u2 := (hb2.cell bxL_u1).trans bx0_u1
  have bx1_u2 := (hb2.cell bxL_u1).trans bx1_u1
  have bx2_u2 := (hb2.cell bxL_u1).trans bx2_u1
  have bx3_u2 := (hb2.cell bxL_u1).trans bx3_u1
  have bx4_u2 := (hb2.cell bxL_u1).trans bx4_u1
  have bx5_u2 := (hb2.cell bxL_u1).trans bx5_u1
  have bx6_u2 := (hb2.cell bxL_u1).trans bx6_u1
  have bx7_u2 := (hb2.cell bxL_u1).trans bx7_u1
  have bxF_u2 : ∀ o, u2.frozen? ⟨(w.heap.size + 1), o, none⟩ = false := fun o => (hb2.frozen bxL_u1).trans (bxF_u1 o)
  have bxL_u2 : (w.heap.size + 1) < u2.heap.size := Nat.lt_of_lt_of_le bxL_u1 hb2.size
  have acc_u2 := hidP (acc_u1.out.trans (hb2.mono acc_u1.out.size))
  have sz_u2 : Hid (u1.heap.size ≤ u2.heap.size) := hidP hb2.size
  clear hb2 ax0_u1 ax1_u1 ax2_u1 ax3_u1 ax4_u1 ax5_u1 ax6_u1 ax7_u1 axF_u1 axL_u1 bx0_u1 bx1_u1 bx2_u1 bx3_u1 bx4_u1 bx5_u1 bx6_u1 bx7_u1 bxF_u1 bxL_u1 acc_u1
  go_wp2_with fail
  go_ret
  exact ⟨rfl, acc_u2.out⟩

end Go.Proofs.YtplocbpngikohaaGreat
