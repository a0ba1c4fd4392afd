/-
  For every plan and every address the two BlockOf answer alike and leave the plan as it was, so the exact law of BlockOf returns true; no condition.
-/
import Derived.Test.YthbpehpnikknlaaVIPlan
import Derived.Test.YthbpehpnikknlaaVPlanS
import Derived.Test.YthbpehpnikknlaaVSPl2
import Derived.Test.YthbpehpnikknlaaBIHas
import Derived.Test.YthbpehpnikknlaaBSHas3
import Derived.ProofKit
import Derived.Lib.SmallJoins
import Derived.Carry
import Derived.Deep.Slices
import Derived.ChangeMaps5
import Derived.Deep.DeepCutAuto
namespace Go.Proofs.Ythbpehpnikknlaa
open Go.RowKit

/-- The first block that has an address. -/
def bkF (s : Bool) (H L : BitVec 64) : List Bk → Bk × Bool
  | [] => (Bk.zero, false)
  | q :: t => if hadB q.p.s q.p.H q.p.L q.p.b s H L = true then (q, true) else bkF s H L t
def bkR (r : Bool) (s : Bool) (H L : BitVec 64) (bs : List Bk) : Bk × Bool := if r = true then bkF s H L bs else (Bk.zero, false)
theorem bkF_at (s : Bool) (H L : BitVec 64) (bs : List Bk) (k : Nat) (q : Bk) (h : bs[k]? = some q) : bkF s H L (bs.drop k) = if hadB q.p.s q.p.H q.p.L q.p.b s H L = true then (q, true) else bkF s H L (bs.drop (k + 1)) := by
  rw [drop_at h]; rfl
theorem box3A {s : Bool} {H L : BitVec 64} (w : World) (t : TypeId) : (w.alloc (.cells #[.bool s, .int .i64 H.toInt, .int .i64 L.toInt] t)).cell? ⟨w.heap.size, 0, none⟩ = some (.bool s) ∧ (w.alloc (.cells #[.bool s, .int .i64 H.toInt, .int .i64 L.toInt] t)).cell? ⟨w.heap.size, 1, none⟩ = some (.int .i64 H.toInt) ∧ (w.alloc (.cells #[.bool s, .int .i64 H.toInt, .int .i64 L.toInt] t)).cell? ⟨w.heap.size, 2, none⟩ = some (.int .i64 L.toInt) := ⟨by simp [go_sem], by simp [go_sem], by simp [go_sem]⟩
theorem boxZ (w : World) (t : TypeId) : (w.alloc (.cells #[.bool false, .int .i64 0, .int .i64 0, .int .i64 0, .string ⟨#[]⟩] t)).cell? ⟨w.heap.size, 0, none⟩ = some (.bool false) ∧ (w.alloc (.cells #[.bool false, .int .i64 0, .int .i64 0, .int .i64 0, .string ⟨#[]⟩] t)).cell? ⟨w.heap.size, 1, none⟩ = some (.int .i64 0) ∧ (w.alloc (.cells #[.bool false, .int .i64 0, .int .i64 0, .int .i64 0, .string ⟨#[]⟩] t)).cell? ⟨w.heap.size, 2, none⟩ = some (.int .i64 0) ∧ (w.alloc (.cells #[.bool false, .int .i64 0, .int .i64 0, .int .i64 0, .string ⟨#[]⟩] t)).cell? ⟨w.heap.size, 3, none⟩ = some (.int .i64 0) ∧ (w.alloc (.cells #[.bool false, .int .i64 0, .int .i64 0, .int .i64 0, .string ⟨#[]⟩] t)).cell? ⟨w.heap.size, 4, none⟩ = some (.string ⟨#[]⟩) := ⟨by simp [go_sem], by simp [go_sem], by simp [go_sem], by simp [go_sem], by simp [go_sem]⟩
theorem frzZ (w : World) (t : TypeId) (o : Nat) : (w.alloc (.cells #[.bool false, .int .i64 0, .int .i64 0, .int .i64 0, .string ⟨#[]⟩] t)).frozen? ⟨w.heap.size, o, none⟩ = false := OwnG.frozen (own_oneG KBk w 0 t Bk.zero (Nat.zero_le _)) o
theorem ret_bk {a b : Bk × Bool} (h : a = b) : Ending.returned (.tuple #[.agg #[.bool a.1.p.s, .int .i64 a.1.p.H.toInt, .int .i64 a.1.p.L.toInt, .int .i64 a.1.p.b, .string a.1.t], .bool a.2]) = Ending.returned (.tuple #[.agg #[.bool b.1.p.s, .int .i64 b.1.p.H.toInt, .int .i64 b.1.p.L.toInt, .int .i64 b.1.p.b, .string b.1.t], .bool b.2]) := by rw [h]

set_option maxRecDepth 10000 in
set_option maxHeartbeats 4000000 in
theorem iBlockOf_any (s : Bool) (H L : BitVec 64) (ap : Option Addr) (np cp : Nat) (ab : Option Addr) (nb cb : Nat) (ps : List Pl) (bs : List Bk) (w : World) (hnp : np = ps.length) (hnb : nb = bs.length) (hP : RowG KPl w ap ps) (hK : RowG KBk w ab bs) (hlp : np ≤ 9000000000) (hl : nb ≤ 9000000000) (hst : ∀ q ∈ bs, q.t.size ≤ 9223372036854775807) :
    Calls Try.prog 26 #[.agg #[.slice ap np cp, .slice ab nb cb], .agg #[.bool s, .int .i64 H.toInt, .int .i64 L.toInt]] w fun e w' => e = .returned (.tuple #[.agg #[.bool (bkR (planB ps bs) s H L bs).1.p.s, .int .i64 (bkR (planB ps bs) s H L bs).1.p.H.toInt, .int .i64 (bkR (planB ps bs) s H L bs).1.p.L.toInt, .int .i64 (bkR (planB ps bs) s H L bs).1.p.b, .string (bkR (planB ps bs) s H L bs).1.t], .bool (bkR (planB ps bs) s H L bs).2]) ∧ Below w.heap.size w w' := by
  have HPO := hidP (fun W h => iPlanOk_any ap np cp ab nb cb ps bs W hnp hnb (hP.later h) (hK.later h) hlp hl hst)
  have HBP := hidP hP
  have HBK := hidP hK
  have HN := hidP hnb
  clear hP hK hnp hnb hst
  generalize planB ps bs = r at *
  go_enter Try.func26, Try.ntmps26
  go_wp2_with fail
  obtain ⟨u0, u1⟩ := box2 (u := .slice ap np cp) (v := .slice ab nb cb) w 32
  have uB := alloc_below w (.cells #[.slice ap np cp, .slice ab nb cb] 32)
  have uL := alloc_lt w (.cells #[.slice ap np cp, .slice ab nb cb] 32)
  have uS : (w.alloc (.cells #[.slice ap np cp, .slice ab nb cb] 32)).heap.size = w.heap.size + 1 := by simp
  generalize w.alloc (.cells #[.slice ap np cp, .slice ab nb cb] 32) = W1 at *
  obtain ⟨a0, a1, a2⟩ := box3A (s := s) (H := H) (L := L) W1 44
  have aB := alloc_below W1 (.cells #[.bool s, .int .i64 H.toInt, .int .i64 L.toInt] 44)
  have aL := alloc_lt W1 (.cells #[.bool s, .int .i64 H.toInt, .int .i64 L.toInt] 44)
  have aS : (W1.alloc (.cells #[.bool s, .int .i64 H.toInt, .int .i64 L.toInt] 44)).heap.size = W1.heap.size + 1 := by simp
  generalize W1.alloc (.cells #[.bool s, .int .i64 H.toInt, .int .i64 L.toInt] 44) = W2 at *
  rw [uS] at a0 a1 a2 aL aS
  have kF := frzZ W2 56
  obtain ⟨k0, k1, k2, k3, k4⟩ := boxZ W2 56
  have kB := alloc_below W2 (.cells #[.bool false, .int .i64 0, .int .i64 0, .int .i64 0, .string ⟨#[]⟩] 56)
  have kL := alloc_lt W2 (.cells #[.bool false, .int .i64 0, .int .i64 0, .int .i64 0, .string ⟨#[]⟩] 56)
  have kS : (W2.alloc (.cells #[.bool false, .int .i64 0, .int .i64 0, .int .i64 0, .string ⟨#[]⟩] 56)).heap.size = W2.heap.size + 1 := by simp
  generalize W2.alloc (.cells #[.bool false, .int .i64 0, .int .i64 0, .int .i64 0, .string ⟨#[]⟩] 56) = W3 at *
  rw [aS] at k0 k1 k2 k3 k4 kL kS
  rw [aS] at kF
  have U0 := (kB.cell (show w.heap.size < W2.heap.size by omega)).trans ((aB.cell uL).trans u0)
  have U1 := (kB.cell (show w.heap.size < W2.heap.size by omega)).trans ((aB.cell uL).trans u1)
  have A0 := (kB.cell (show w.heap.size + 1 < W2.heap.size by omega)).trans a0
  have A1 := (kB.cell (show w.heap.size + 1 < W2.heap.size by omega)).trans a1
  have A2 := (kB.cell (show w.heap.size + 1 < W2.heap.size by omega)).trans a2
  have B3 := hidP ((uB.trans (aB.mono uB.size)).trans (kB.mono (Nat.le_trans uB.size aB.size)))
  have hs3 : W3.heap.size = w.heap.size + 3 := by omega
  have HP3 := hidP (HBP.out.later B3.out)
  have HK3 := hidP (HBK.out.later B3.out)
  clear u0 u1 uB uL uS a0 a1 a2 aB aL aS kB kS
  refine (HPO.out _ B3.out).mono ?_
  rintro e w4 ⟨rfl, hb4⟩
  have U0a := (hb4.cell (show w.heap.size < W3.heap.size by omega)).trans U0
  have U1a := (hb4.cell (show w.heap.size < W3.heap.size by omega)).trans U1
  have A0a := (hb4.cell (show w.heap.size + 1 < W3.heap.size by omega)).trans A0
  have A1a := (hb4.cell (show w.heap.size + 1 < W3.heap.size by omega)).trans A1
  have A2a := (hb4.cell (show w.heap.size + 1 < W3.heap.size by omega)).trans A2
  have k0a := (hb4.cell (show w.heap.size + 1 + 1 < W3.heap.size by omega)).trans k0
  have k1a := (hb4.cell (show w.heap.size + 1 + 1 < W3.heap.size by omega)).trans k1
  have k2a := (hb4.cell (show w.heap.size + 1 + 1 < W3.heap.size by omega)).trans k2
  have k3a := (hb4.cell (show w.heap.size + 1 + 1 < W3.heap.size by omega)).trans k3
  have k4a := (hb4.cell (show w.heap.size + 1 + 1 < W3.heap.size by omega)).trans k4
  have kFa : ∀ o, w4.frozen? ⟨w.heap.size + 1 + 1, o, none⟩ = false := fun o => (hb4.frozen (show w.heap.size + 1 + 1 < W3.heap.size by omega)).trans (kF o)
  clear U0 U1 A0 A1 A2 k0 k1 k2 k3 k4 kF
  have hz4 : w.heap.size + 3 ≤ w4.heap.size := by have := hb4.size; omega
  have B4 := hidP (B3.out.trans (hb4.mono B3.out.size))
  have HK4 := hidP (HK3.out.later hb4)
  clear hb4
  cases r
  · have HF : Hid (bkR false s H L bs = (Bk.zero, false)) := hidP rfl
    go_wp2_with fail
    refine bodyPost_ret (v := .tuple #[.agg #[.bool false, .int .i64 0, .int .i64 0, .int .i64 0, .string ⟨#[]⟩], .bool false]) (by simp [results, Try.results26, go_sem, k0a, k1a, k2a, k3a, k4a]) rfl ⟨ret_bk (a := (Bk.zero, false)) HF.out.symm, ?_⟩
    repeat (with_reducible refine Below.setCell ?_ ?_ _; rotate_left; (focus (first | omega | (simp; omega))))
    exact B4.out
  · go_wp2_with fail
    go_loopw [7, 15] (fun _ t15 wr => ∃ k : Nat, k ≤ nb ∧ t15 = .int .i64 k ∧ bkR true s H L bs = bkF s H L (bs.drop k) ∧ Below w4.heap.size w4 wr) (fun _ t15 _ => nb - (intOf t15).toNat)
    case atStart => exact ⟨0, Nat.zero_le _, rfl, rfl, Below.refl _ _⟩
    case round =>
      obtain ⟨k, hk, rfl, hix, hbel⟩ := hrel
      have U0r := (hbel.cell (show w.heap.size < w4.heap.size by omega)).trans U0a
      have U1r := (hbel.cell (show w.heap.size < w4.heap.size by omega)).trans U1a
      have A0r := (hbel.cell (show w.heap.size + 1 < w4.heap.size by omega)).trans A0a
      have A1r := (hbel.cell (show w.heap.size + 1 < w4.heap.size by omega)).trans A1a
      have A2r := (hbel.cell (show w.heap.size + 1 < w4.heap.size by omega)).trans A2a
      have k0r := (hbel.cell (show w.heap.size + 1 + 1 < w4.heap.size by omega)).trans k0a
      have k1r := (hbel.cell (show w.heap.size + 1 + 1 < w4.heap.size by omega)).trans k1a
      have k2r := (hbel.cell (show w.heap.size + 1 + 1 < w4.heap.size by omega)).trans k2a
      have k3r := (hbel.cell (show w.heap.size + 1 + 1 < w4.heap.size by omega)).trans k3a
      have k4r := (hbel.cell (show w.heap.size + 1 + 1 < w4.heap.size by omega)).trans k4a
      have kFr : ∀ o, wr.frozen? ⟨w.heap.size + 1 + 1, o, none⟩ = false := fun o => (hbel.frozen (show w.heap.size + 1 + 1 < w4.heap.size by omega)).trans (kFa o)
      have hzr : w.heap.size + 3 ≤ wr.heap.size := by have := hbel.size; omega
      have hzU : w.heap.size < wr.heap.size := by omega
      have hzA : w.heap.size + 1 < wr.heap.size := by omega
      have hzK : w.heap.size + 1 + 1 < wr.heap.size := by omega
      have BR := hidP (B4.out.trans (hbel.mono B4.out.size))
      by_cases hlt : k < nb
      · obtain ⟨p, o, q, rfl, hp, hq, c0, c1, c2, c3, c4⟩ := rowBk HK4.out k (by rw [← HN.out]; exact hlt)
        have d0 := (hbel.cell hp).trans c0
        have d1 := (hbel.cell hp).trans c1
        have d2 := (hbel.cell hp).trans c2
        have d3 := (hbel.cell hp).trans c3
        have d4 := (hbel.cell hp).trans c4
        rw [bkF_at s H L bs k q hq] at hix
        have HX := hidP hix
        have HBel := hidP hbel
        have HH := hidP (iHasAddr_any q.p.s q.p.H q.p.L q.p.b s H L)
        clear c0 c1 c2 c3 c4 hq hix hbel
        clear U0a U1a A0a A1a A2a k0a k1a k2a k3a k4a kFa
        cases hh : hadB q.p.s q.p.H q.p.L q.p.b s H L
        · rw [hh] at HX HH
          go_wp2_with fail
          obtain ⟨x0, x1, x2, x3, x4⟩ := boxBk (q := q) wr 56
          have xB := alloc_below wr (.cells #[.bool q.p.s, .int .i64 q.p.H.toInt, .int .i64 q.p.L.toInt, .int .i64 q.p.b, .string q.t] 56)
          have xL := alloc_lt wr (.cells #[.bool q.p.s, .int .i64 q.p.H.toInt, .int .i64 q.p.L.toInt, .int .i64 q.p.b, .string q.t] 56)
          have xS : (wr.alloc (.cells #[.bool q.p.s, .int .i64 q.p.H.toInt, .int .i64 q.p.L.toInt, .int .i64 q.p.b, .string q.t] 56)).heap.size = wr.heap.size + 1 := by simp
          generalize wr.alloc (.cells #[.bool q.p.s, .int .i64 q.p.H.toInt, .int .i64 q.p.L.toInt, .int .i64 q.p.b, .string q.t] 56) = W5 at *
          have U0s := (xB.cell (show w.heap.size < wr.heap.size by omega)).trans U0r
          have U1s := (xB.cell (show w.heap.size < wr.heap.size by omega)).trans U1r
          have A0s := (xB.cell (show w.heap.size + 1 < wr.heap.size by omega)).trans A0r
          have A1s := (xB.cell (show w.heap.size + 1 < wr.heap.size by omega)).trans A1r
          have A2s := (xB.cell (show w.heap.size + 1 < wr.heap.size by omega)).trans A2r
          have k0s := (xB.cell (show w.heap.size + 1 + 1 < wr.heap.size by omega)).trans k0r
          have k1s := (xB.cell (show w.heap.size + 1 + 1 < wr.heap.size by omega)).trans k1r
          have k2s := (xB.cell (show w.heap.size + 1 + 1 < wr.heap.size by omega)).trans k2r
          have k3s := (xB.cell (show w.heap.size + 1 + 1 < wr.heap.size by omega)).trans k3r
          have k4s := (xB.cell (show w.heap.size + 1 + 1 < wr.heap.size by omega)).trans k4r
          have kFs : ∀ o, W5.frozen? ⟨w.heap.size + 1 + 1, o, none⟩ = false := fun o => (xB.frozen (show w.heap.size + 1 + 1 < wr.heap.size by omega)).trans (kFr o)
          clear U0r U1r A0r A1r A2r k0r k1r k2r k3r k4r kFr
          have hz5 : w.heap.size + 3 ≤ W5.heap.size := by have := xB.size; omega
          have B5 := hidP (BR.out.trans (xB.mono BR.out.size))
          have X5 := hidP xB
          clear xB
          refine (HH.out _).mono ?_
          rintro e w6 ⟨rfl, hb6⟩
          have U0t := (hb6.cell (show w.heap.size < W5.heap.size by omega)).trans U0s
          have U1t := (hb6.cell (show w.heap.size < W5.heap.size by omega)).trans U1s
          have A0t := (hb6.cell (show w.heap.size + 1 < W5.heap.size by omega)).trans A0s
          have A1t := (hb6.cell (show w.heap.size + 1 < W5.heap.size by omega)).trans A1s
          have A2t := (hb6.cell (show w.heap.size + 1 < W5.heap.size by omega)).trans A2s
          have k0t := (hb6.cell (show w.heap.size + 1 + 1 < W5.heap.size by omega)).trans k0s
          have k1t := (hb6.cell (show w.heap.size + 1 + 1 < W5.heap.size by omega)).trans k1s
          have k2t := (hb6.cell (show w.heap.size + 1 + 1 < W5.heap.size by omega)).trans k2s
          have k3t := (hb6.cell (show w.heap.size + 1 + 1 < W5.heap.size by omega)).trans k3s
          have k4t := (hb6.cell (show w.heap.size + 1 + 1 < W5.heap.size by omega)).trans k4s
          have kFt : ∀ o, w6.frozen? ⟨w.heap.size + 1 + 1, o, none⟩ = false := fun o => (hb6.frozen (show w.heap.size + 1 + 1 < W5.heap.size by omega)).trans (kFs o)
          clear U0s U1s A0s A1s A2s k0s k1s k2s k3s k4s kFs
          have y0 := (hb6.cell xL).trans x0
          have y1 := (hb6.cell xL).trans x1
          have y2 := (hb6.cell xL).trans x2
          have y3 := (hb6.cell xL).trans x3
          have y4 := (hb6.cell xL).trans x4
          have hz6 : w.heap.size + 3 ≤ w6.heap.size := by have := hb6.size; omega
          have B6 := hidP (B5.out.trans (hb6.mono B5.out.size))
          have X6 := hidP (X5.out.trans (hb6.mono X5.out.size))
          clear hb6 x0 x1 x2 x3 x4 xS d0 d1 d2 d3 d4
          go_wp2_with fail
          go_roundw
          case rel => exact ⟨k + 1, by omega, by go_num, by rw [HX.out]; simp, HBel.out.trans (X6.out.mono HBel.out.size)⟩
          case measure => simp [intOf]; omega
        · rw [hh] at HX HH
          have HF : Hid (bkR true s H L bs = (q, true)) := hidP (by rw [HX.out]; simp)
          go_wp2_with fail
          obtain ⟨x0, x1, x2, x3, x4⟩ := boxBk (q := q) wr 56
          have xB := alloc_below wr (.cells #[.bool q.p.s, .int .i64 q.p.H.toInt, .int .i64 q.p.L.toInt, .int .i64 q.p.b, .string q.t] 56)
          have xL := alloc_lt wr (.cells #[.bool q.p.s, .int .i64 q.p.H.toInt, .int .i64 q.p.L.toInt, .int .i64 q.p.b, .string q.t] 56)
          have xS : (wr.alloc (.cells #[.bool q.p.s, .int .i64 q.p.H.toInt, .int .i64 q.p.L.toInt, .int .i64 q.p.b, .string q.t] 56)).heap.size = wr.heap.size + 1 := by simp
          generalize wr.alloc (.cells #[.bool q.p.s, .int .i64 q.p.H.toInt, .int .i64 q.p.L.toInt, .int .i64 q.p.b, .string q.t] 56) = W5 at *
          have U0s := (xB.cell (show w.heap.size < wr.heap.size by omega)).trans U0r
          have U1s := (xB.cell (show w.heap.size < wr.heap.size by omega)).trans U1r
          have A0s := (xB.cell (show w.heap.size + 1 < wr.heap.size by omega)).trans A0r
          have A1s := (xB.cell (show w.heap.size + 1 < wr.heap.size by omega)).trans A1r
          have A2s := (xB.cell (show w.heap.size + 1 < wr.heap.size by omega)).trans A2r
          have k0s := (xB.cell (show w.heap.size + 1 + 1 < wr.heap.size by omega)).trans k0r
          have k1s := (xB.cell (show w.heap.size + 1 + 1 < wr.heap.size by omega)).trans k1r
          have k2s := (xB.cell (show w.heap.size + 1 + 1 < wr.heap.size by omega)).trans k2r
          have k3s := (xB.cell (show w.heap.size + 1 + 1 < wr.heap.size by omega)).trans k3r
          have k4s := (xB.cell (show w.heap.size + 1 + 1 < wr.heap.size by omega)).trans k4r
          have kFs : ∀ o, W5.frozen? ⟨w.heap.size + 1 + 1, o, none⟩ = false := fun o => (xB.frozen (show w.heap.size + 1 + 1 < wr.heap.size by omega)).trans (kFr o)
          clear U0r U1r A0r A1r A2r k0r k1r k2r k3r k4r kFr
          have hz5 : w.heap.size + 3 ≤ W5.heap.size := by have := xB.size; omega
          have B5 := hidP (BR.out.trans (xB.mono BR.out.size))
          have X5 := hidP xB
          clear xB
          refine (HH.out _).mono ?_
          rintro e w6 ⟨rfl, hb6⟩
          have U0t := (hb6.cell (show w.heap.size < W5.heap.size by omega)).trans U0s
          have U1t := (hb6.cell (show w.heap.size < W5.heap.size by omega)).trans U1s
          have A0t := (hb6.cell (show w.heap.size + 1 < W5.heap.size by omega)).trans A0s
          have A1t := (hb6.cell (show w.heap.size + 1 < W5.heap.size by omega)).trans A1s
          have A2t := (hb6.cell (show w.heap.size + 1 < W5.heap.size by omega)).trans A2s
          have k0t := (hb6.cell (show w.heap.size + 1 + 1 < W5.heap.size by omega)).trans k0s
          have k1t := (hb6.cell (show w.heap.size + 1 + 1 < W5.heap.size by omega)).trans k1s
          have k2t := (hb6.cell (show w.heap.size + 1 + 1 < W5.heap.size by omega)).trans k2s
          have k3t := (hb6.cell (show w.heap.size + 1 + 1 < W5.heap.size by omega)).trans k3s
          have k4t := (hb6.cell (show w.heap.size + 1 + 1 < W5.heap.size by omega)).trans k4s
          have kFt : ∀ o, w6.frozen? ⟨w.heap.size + 1 + 1, o, none⟩ = false := fun o => (hb6.frozen (show w.heap.size + 1 + 1 < W5.heap.size by omega)).trans (kFs o)
          clear U0s U1s A0s A1s A2s k0s k1s k2s k3s k4s kFs
          have y0 := (hb6.cell xL).trans x0
          have y1 := (hb6.cell xL).trans x1
          have y2 := (hb6.cell xL).trans x2
          have y3 := (hb6.cell xL).trans x3
          have y4 := (hb6.cell xL).trans x4
          have hz6 : w.heap.size + 3 ≤ w6.heap.size := by have := hb6.size; omega
          have B6 := hidP (B5.out.trans (hb6.mono B5.out.size))
          have X6 := hidP (X5.out.trans (hb6.mono X5.out.size))
          clear hb6 x0 x1 x2 x3 x4 xS d0 d1 d2 d3 d4
          go_wp2_with fail
          refine bodyPost_ret (v := .tuple #[.agg #[.bool q.p.s, .int .i64 q.p.H.toInt, .int .i64 q.p.L.toInt, .int .i64 q.p.b, .string q.t], .bool true]) (by simp [results, Try.results26, go_sem, k0t, k1t, k2t, k3t, k4t]) rfl ⟨ret_bk (a := (q, true)) HF.out.symm, ?_⟩
          repeat (with_reducible refine Below.setCell ?_ ?_ _; rotate_left; (focus (first | omega | (simp; omega))))
          exact B6.out
      · have HF : Hid (bkR true s H L bs = (Bk.zero, false)) := by
          rw [List.drop_of_length_le (by have := HN.out; omega)] at hix
          exact hidP hix
        clear hbel hix
        clear U0a U1a A0a A1a A2a k0a k1a k2a k3a k4a kFa
        go_wp2_with fail
        refine bodyPost_ret (v := .tuple #[.agg #[.bool false, .int .i64 0, .int .i64 0, .int .i64 0, .string ⟨#[]⟩], .bool false]) (by simp [results, Try.results26, go_sem, k0r, k1r, k2r, k3r, k4r]) rfl ⟨ret_bk (a := (Bk.zero, false)) HF.out.symm, ?_⟩
        repeat (with_reducible refine Below.setCell ?_ ?_ _; rotate_left; (focus (first | omega | (simp; omega))))
        exact BR.out

set_option maxRecDepth 10000 in
set_option maxHeartbeats 4000000 in
theorem sBlockOf_any (s : Bool) (H L : BitVec 64) (ap : Option Addr) (np cp : Nat) (ab : Option Addr) (nb cb : Nat) (ps : List Pl) (bs : List Bk) (w : World) (hnp : np = ps.length) (hnb : nb = bs.length) (hP : RowG KPl w ap ps) (hK : RowG KBk w ab bs) (hlp : np ≤ 9000000000) (hl : nb ≤ 9000000000) (hst : ∀ q ∈ bs, q.t.size ≤ 9223372036854775807) :
    Calls Try.prog 24 #[.agg #[.slice ap np cp, .slice ab nb cb], .agg #[.bool s, .int .i64 H.toInt, .int .i64 L.toInt]] w fun e w' => e = .returned (.tuple #[.agg #[.bool (bkR (planB ps bs) s H L bs).1.p.s, .int .i64 (bkR (planB ps bs) s H L bs).1.p.H.toInt, .int .i64 (bkR (planB ps bs) s H L bs).1.p.L.toInt, .int .i64 (bkR (planB ps bs) s H L bs).1.p.b, .string (bkR (planB ps bs) s H L bs).1.t], .bool (bkR (planB ps bs) s H L bs).2]) ∧ Below w.heap.size w w' := by
  have HPO := hidP (fun W h => sPlanOk_any ap np cp ab nb cb ps bs W hnp hnb (hP.later h) (hK.later h) hlp hl hst)
  have HBP := hidP hP
  have HBK := hidP hK
  have HN := hidP hnb
  clear hP hK hnp hnb hst
  generalize planB ps bs = r at *
  go_enter Try.func24, Try.ntmps24
  go_wp2_with fail
  obtain ⟨u0, u1⟩ := box2 (u := .slice ap np cp) (v := .slice ab nb cb) w 32
  have uB := alloc_below w (.cells #[.slice ap np cp, .slice ab nb cb] 32)
  have uL := alloc_lt w (.cells #[.slice ap np cp, .slice ab nb cb] 32)
  have uS : (w.alloc (.cells #[.slice ap np cp, .slice ab nb cb] 32)).heap.size = w.heap.size + 1 := by simp
  generalize w.alloc (.cells #[.slice ap np cp, .slice ab nb cb] 32) = W1 at *
  obtain ⟨a0, a1, a2⟩ := box3A (s := s) (H := H) (L := L) W1 44
  have aB := alloc_below W1 (.cells #[.bool s, .int .i64 H.toInt, .int .i64 L.toInt] 44)
  have aL := alloc_lt W1 (.cells #[.bool s, .int .i64 H.toInt, .int .i64 L.toInt] 44)
  have aS : (W1.alloc (.cells #[.bool s, .int .i64 H.toInt, .int .i64 L.toInt] 44)).heap.size = W1.heap.size + 1 := by simp
  generalize W1.alloc (.cells #[.bool s, .int .i64 H.toInt, .int .i64 L.toInt] 44) = W2 at *
  rw [uS] at a0 a1 a2 aL aS
  have kF := frzZ W2 56
  obtain ⟨k0, k1, k2, k3, k4⟩ := boxZ W2 56
  have kB := alloc_below W2 (.cells #[.bool false, .int .i64 0, .int .i64 0, .int .i64 0, .string ⟨#[]⟩] 56)
  have kL := alloc_lt W2 (.cells #[.bool false, .int .i64 0, .int .i64 0, .int .i64 0, .string ⟨#[]⟩] 56)
  have kS : (W2.alloc (.cells #[.bool false, .int .i64 0, .int .i64 0, .int .i64 0, .string ⟨#[]⟩] 56)).heap.size = W2.heap.size + 1 := by simp
  generalize W2.alloc (.cells #[.bool false, .int .i64 0, .int .i64 0, .int .i64 0, .string ⟨#[]⟩] 56) = W3 at *
  rw [aS] at k0 k1 k2 k3 k4 kL kS
  rw [aS] at kF
  have U0 := (kB.cell (show w.heap.size < W2.heap.size by omega)).trans ((aB.cell uL).trans u0)
  have U1 := (kB.cell (show w.heap.size < W2.heap.size by omega)).trans ((aB.cell uL).trans u1)
  have A0 := (kB.cell (show w.heap.size + 1 < W2.heap.size by omega)).trans a0
  have A1 := (kB.cell (show w.heap.size + 1 < W2.heap.size by omega)).trans a1
  have A2 := (kB.cell (show w.heap.size + 1 < W2.heap.size by omega)).trans a2
  have B3 := hidP ((uB.trans (aB.mono uB.size)).trans (kB.mono (Nat.le_trans uB.size aB.size)))
  have hs3 : W3.heap.size = w.heap.size + 3 := by omega
  have HP3 := hidP (HBP.out.later B3.out)
  have HK3 := hidP (HBK.out.later B3.out)
  clear u0 u1 uB uL uS a0 a1 a2 aB aL aS kB kS
  go_loopw [6] (fun t6 wr => ∃ k : Nat, k ≤ nb ∧ t6 = .int .i64 k ∧ bkR r s H L bs = bkR r s H L (bs.drop k) ∧ Below W3.heap.size W3 wr) (fun t6 _ => nb - (intOf t6).toNat)
  case atStart => exact ⟨0, Nat.zero_le _, rfl, rfl, Below.refl _ _⟩
  case round =>
    obtain ⟨k, hk, rfl, hix, hbel⟩ := hrel
    have U0r := (hbel.cell (show w.heap.size < W3.heap.size by omega)).trans U0
    have U1r := (hbel.cell (show w.heap.size < W3.heap.size by omega)).trans U1
    have A0r := (hbel.cell (show w.heap.size + 1 < W3.heap.size by omega)).trans A0
    have A1r := (hbel.cell (show w.heap.size + 1 < W3.heap.size by omega)).trans A1
    have A2r := (hbel.cell (show w.heap.size + 1 < W3.heap.size by omega)).trans A2
    have k0r := (hbel.cell (show w.heap.size + 1 + 1 < W3.heap.size by omega)).trans k0
    have k1r := (hbel.cell (show w.heap.size + 1 + 1 < W3.heap.size by omega)).trans k1
    have k2r := (hbel.cell (show w.heap.size + 1 + 1 < W3.heap.size by omega)).trans k2
    have k3r := (hbel.cell (show w.heap.size + 1 + 1 < W3.heap.size by omega)).trans k3
    have k4r := (hbel.cell (show w.heap.size + 1 + 1 < W3.heap.size by omega)).trans k4
    have kFr : ∀ o, wr.frozen? ⟨w.heap.size + 1 + 1, o, none⟩ = false := fun o => (hbel.frozen (show w.heap.size + 1 + 1 < W3.heap.size by omega)).trans (kF o)
    have hzr : w.heap.size + 3 ≤ wr.heap.size := by have := hbel.size; omega
    have BR := hidP (B3.out.trans (hbel.mono B3.out.size))
    have HBel := hidP hbel
    clear U0 U1 A0 A1 A2 k0 k1 k2 k3 k4 kF
    by_cases hlt : k < nb
    · have gk : decide ((k : Int) < (nb : Int)) = true := decide_eq_true (by omega)
      go_wp2_with fail
      refine (HPO.out _ BR.out).mono ?_
      rintro e w4 ⟨rfl, hb4⟩
      have U0a := (hb4.cell (show w.heap.size < wr.heap.size by omega)).trans U0r
      have U1a := (hb4.cell (show w.heap.size < wr.heap.size by omega)).trans U1r
      have A0a := (hb4.cell (show w.heap.size + 1 < wr.heap.size by omega)).trans A0r
      have A1a := (hb4.cell (show w.heap.size + 1 < wr.heap.size by omega)).trans A1r
      have A2a := (hb4.cell (show w.heap.size + 1 < wr.heap.size by omega)).trans A2r
      have k0a := (hb4.cell (show w.heap.size + 1 + 1 < wr.heap.size by omega)).trans k0r
      have k1a := (hb4.cell (show w.heap.size + 1 + 1 < wr.heap.size by omega)).trans k1r
      have k2a := (hb4.cell (show w.heap.size + 1 + 1 < wr.heap.size by omega)).trans k2r
      have k3a := (hb4.cell (show w.heap.size + 1 + 1 < wr.heap.size by omega)).trans k3r
      have k4a := (hb4.cell (show w.heap.size + 1 + 1 < wr.heap.size by omega)).trans k4r
      have kFa : ∀ o, w4.frozen? ⟨w.heap.size + 1 + 1, o, none⟩ = false := fun o => (hb4.frozen (show w.heap.size + 1 + 1 < wr.heap.size by omega)).trans (kFr o)
      clear U0r U1r A0r A1r A2r k0r k1r k2r k3r k4r kFr
      have hz4 : w.heap.size + 3 ≤ w4.heap.size := by have := hb4.size; omega
      have B4 := hidP (BR.out.trans (hb4.mono BR.out.size))
      have X4 := hidP (HBel.out.trans (hb4.mono HBel.out.size))
      clear hb4
      cases r
      · have HF : Hid (bkR false s H L bs = (Bk.zero, false)) := hidP rfl
        clear hix hbel
        go_wp2_with fail
        refine bodyPost_ret (v := .tuple #[.agg #[.bool false, .int .i64 0, .int .i64 0, .int .i64 0, .string ⟨#[]⟩], .bool false]) (by simp [results, Try.results24, go_sem, k0a, k1a, k2a, k3a, k4a]) rfl ⟨ret_bk (a := (Bk.zero, false)) HF.out.symm, ?_⟩
        repeat (with_reducible refine Below.setCell ?_ ?_ _; rotate_left; (focus (first | omega | (simp; omega))))
        exact B4.out
      · obtain ⟨p, o, q, rfl, hp, hq, c0, c1, c2, c3, c4⟩ := rowBk HK3.out k (by rw [← HN.out]; exact hlt)
        have d0 := (X4.out.cell hp).trans c0
        have d1 := (X4.out.cell hp).trans c1
        have d2 := (X4.out.cell hp).trans c2
        have d3 := (X4.out.cell hp).trans c3
        have d4 := (X4.out.cell hp).trans c4
        have dL : p < w4.heap.size := Nat.lt_of_lt_of_le hp X4.out.size
        have hix' : bkR true s H L bs = bkF s H L (bs.drop k) := hix
        rw [bkF_at s H L bs k q hq] at hix'
        have HX := hidP hix'
        have HH := hidP (sHasAddr_any q.p.s q.p.H q.p.L q.p.b s H L)
        have uL : w.heap.size < w4.heap.size := by omega
        have aL : w.heap.size + 1 < w4.heap.size := by omega
        clear c0 c1 c2 c3 c4 hq hix hix' hbel
        cases hh : hadB q.p.s q.p.H q.p.L q.p.b s H L
        · rw [hh] at HX HH
          go_wp2_with fail
          have HSx : Hid (∀ x, Below w4.heap.size w4 x → (x.cell? ⟨p, o + k * 5, none⟩ = some (.bool q.p.s) ∧ x.cell? ⟨p, o + k * 5 + 1, none⟩ = some (.int .i64 q.p.H.toInt) ∧ x.cell? ⟨p, o + k * 5 + 2, none⟩ = some (.int .i64 q.p.L.toInt) ∧ x.cell? ⟨p, o + k * 5 + 3, none⟩ = some (.int .i64 q.p.b) ∧ x.cell? ⟨p, o + k * 5 + 4, none⟩ = some (.string q.t) ∧ x.cell? ⟨w.heap.size, 1, none⟩ = some (.slice (some ⟨p, o, none⟩) nb cb) ∧ x.cell? ⟨w.heap.size + 1, 0, none⟩ = some (.bool s) ∧ x.cell? ⟨w.heap.size + 1, 1, none⟩ = some (.int .i64 H.toInt) ∧ x.cell? ⟨w.heap.size + 1, 2, none⟩ = some (.int .i64 L.toInt) ∧ Below w4.heap.size w4 x)) := hidP fun x h =>
            ⟨(h.cell dL).trans d0, (h.cell dL).trans d1, (h.cell dL).trans d2, (h.cell dL).trans d3, (h.cell dL).trans d4, (h.cell uL).trans U1a, (h.cell aL).trans A0a, (h.cell aL).trans A1a, (h.cell aL).trans A2a, h⟩
          refine wp_region_held_drew (S := (fun x => x.cell? ⟨p, o + k * 5, none⟩ = some (.bool q.p.s) ∧ x.cell? ⟨p, o + k * 5 + 1, none⟩ = some (.int .i64 q.p.H.toInt) ∧ x.cell? ⟨p, o + k * 5 + 2, none⟩ = some (.int .i64 q.p.L.toInt) ∧ x.cell? ⟨p, o + k * 5 + 3, none⟩ = some (.int .i64 q.p.b) ∧ x.cell? ⟨p, o + k * 5 + 4, none⟩ = some (.string q.t) ∧ x.cell? ⟨w.heap.size, 1, none⟩ = some (.slice (some ⟨p, o, none⟩) nb cb) ∧ x.cell? ⟨w.heap.size + 1, 0, none⟩ = some (.bool s) ∧ x.cell? ⟨w.heap.size + 1, 1, none⟩ = some (.int .i64 H.toInt) ∧ x.cell? ⟨w.heap.size + 1, 2, none⟩ = some (.int .i64 L.toInt) ∧ Below w4.heap.size w4 x)) (by kernel_rfl) ?_ (fun hHeld => ?_)
          · try dsimp only
            exact HSx.out _ (Below.refl _ _).drew
          refine wpAnyH_take (i := 0) (oi := ⟨some 18, _, _, _, _, _⟩) (v := ?_) rfl (by kernel_rfl) (by kernel_rfl) (by kernel_rfl) (fun _ _ _ h => h) (Or.inl ⟨by rfl, ?_⟩) (by assumption) ?_
          rotate_left
          · intro w hSw
            try dsimp only at hSw
            go_simp
            try with_reducible rfl
          simp only [Act.put, List.setIfInBounds_toArray, List.set_cons_zero, List.set_cons_succ]
          refine wpAnyH_take (i := 1) (oi := ⟨some 19, _, _, _, _, _⟩) (v := ?_) rfl (by kernel_rfl) (by kernel_rfl) (by kernel_rfl) (fun _ _ _ h => h) (Or.inl ⟨by rfl, ?_⟩) (by assumption) ?_
          rotate_left
          · intro w hSw
            try dsimp only at hSw
            go_simp
            try with_reducible rfl
          simp only [Act.put, List.setIfInBounds_toArray, List.set_cons_zero, List.set_cons_succ]
          refine wpAnyH_take (i := 2) (oi := ⟨some 20, _, _, _, _, _⟩) (v := ?_) rfl (by kernel_rfl) (by kernel_rfl) (by kernel_rfl) (fun _ _ _ h => h) (Or.inl ⟨by rfl, ?_⟩) (by assumption) ?_
          rotate_left
          · intro w hSw
            try dsimp only at hSw
            go_simp
            try with_reducible rfl
          simp only [Act.put, List.setIfInBounds_toArray, List.set_cons_zero, List.set_cons_succ]
          refine wpAnyH_take (i := 3) (oi := ⟨some 21, _, _, _, _, _⟩) (v := ?_) rfl (by kernel_rfl) (by kernel_rfl) (by kernel_rfl) (fun _ _ _ h => h) (Or.inl ⟨by rfl, ?_⟩) (by assumption) ?_
          rotate_left
          · intro w hSw
            try dsimp only at hSw
            go_simp
            try with_reducible rfl
          simp only [Act.put, List.setIfInBounds_toArray, List.set_cons_zero, List.set_cons_succ]
          refine wpAnyH_take (i := 4) (oi := ⟨some 22, _, _, _, _, _⟩) (v := ?_) rfl (by kernel_rfl) (by kernel_rfl) (by kernel_rfl) (fun _ _ _ h => h) (Or.inl ⟨by rfl, ?_⟩) (by assumption) ?_
          rotate_left
          · intro w hSw
            try dsimp only at hSw
            go_simp
            try with_reducible rfl
          simp only [Act.put, List.setIfInBounds_toArray, List.set_cons_zero, List.set_cons_succ]
          refine wpAnyH_take (i := 5) (oi := ⟨some 23, _, _, _, _, _⟩) (v := ?_) rfl (by kernel_rfl) (by kernel_rfl) (by kernel_rfl) (fun _ _ _ h => h) (Or.inl ⟨by rfl, ?_⟩) (by assumption) ?_
          rotate_left
          · intro w hSw
            try dsimp only at hSw
            go_simp
            try with_reducible rfl
          simp only [Act.put, List.setIfInBounds_toArray, List.set_cons_zero, List.set_cons_succ]
          refine wpAnyH_take (i := 6) (oi := ⟨some 24, _, _, _, _, _⟩) (v := ?_) rfl (by kernel_rfl) (by kernel_rfl) (by kernel_rfl) (fun _ _ _ h => h) (Or.inl ⟨by rfl, ?_⟩) (by assumption) ?_
          rotate_left
          · intro w hSw
            try dsimp only at hSw
            go_simp
            try with_reducible rfl
          simp only [Act.put, List.setIfInBounds_toArray, List.set_cons_zero, List.set_cons_succ]
          refine wpAnyH_ready (rs := [7]) (by kernel_rfl) (by simp) ?_
          refine AllReadyH.cons rfl (fun K hK => ?_) AllReadyH.nil
          go_simp
          go_wp2_with (first | (go_at_call 66; refine (HH.out _).mono ?_; rintro e w6 ⟨rfl, hb6⟩; have b6 := (hHeld.2.2.2.2.2.2.2.2.2).trans (hb6.mono (hHeld.2.2.2.2.2.2.2.2.2).size)))
          refine hK.out _ _ ?_ (fun hHeld => ?_)
          · try dsimp only
            exact HSx.out _ b6
          clear hK K
          have HE := hidP (hHeld.2.2.2.2.2.2.2.2.2)
          refine wpAnyH_done (by kernel_rfl) ?_ _
          clear hHeld
          go_wp2_with fail
          go_roundw
          case rel => exact ⟨k + 1, by omega, by go_num, by rw [HX.out]; simp [bkR], X4.out.trans (HE.out.mono X4.out.size)⟩
          case measure => simp [intOf]; omega
        · rw [hh] at HX HH
          have HF : Hid (bkR true s H L bs = (q, true)) := hidP (by rw [HX.out]; simp)
          go_wp2_with fail
          have HSx : Hid (∀ x, Below w4.heap.size w4 x → (x.cell? ⟨p, o + k * 5, none⟩ = some (.bool q.p.s) ∧ x.cell? ⟨p, o + k * 5 + 1, none⟩ = some (.int .i64 q.p.H.toInt) ∧ x.cell? ⟨p, o + k * 5 + 2, none⟩ = some (.int .i64 q.p.L.toInt) ∧ x.cell? ⟨p, o + k * 5 + 3, none⟩ = some (.int .i64 q.p.b) ∧ x.cell? ⟨p, o + k * 5 + 4, none⟩ = some (.string q.t) ∧ x.cell? ⟨w.heap.size, 1, none⟩ = some (.slice (some ⟨p, o, none⟩) nb cb) ∧ x.cell? ⟨w.heap.size + 1, 0, none⟩ = some (.bool s) ∧ x.cell? ⟨w.heap.size + 1, 1, none⟩ = some (.int .i64 H.toInt) ∧ x.cell? ⟨w.heap.size + 1, 2, none⟩ = some (.int .i64 L.toInt) ∧ Below w4.heap.size w4 x)) := hidP fun x h =>
            ⟨(h.cell dL).trans d0, (h.cell dL).trans d1, (h.cell dL).trans d2, (h.cell dL).trans d3, (h.cell dL).trans d4, (h.cell uL).trans U1a, (h.cell aL).trans A0a, (h.cell aL).trans A1a, (h.cell aL).trans A2a, h⟩
          refine wp_region_held_drew (S := (fun x => x.cell? ⟨p, o + k * 5, none⟩ = some (.bool q.p.s) ∧ x.cell? ⟨p, o + k * 5 + 1, none⟩ = some (.int .i64 q.p.H.toInt) ∧ x.cell? ⟨p, o + k * 5 + 2, none⟩ = some (.int .i64 q.p.L.toInt) ∧ x.cell? ⟨p, o + k * 5 + 3, none⟩ = some (.int .i64 q.p.b) ∧ x.cell? ⟨p, o + k * 5 + 4, none⟩ = some (.string q.t) ∧ x.cell? ⟨w.heap.size, 1, none⟩ = some (.slice (some ⟨p, o, none⟩) nb cb) ∧ x.cell? ⟨w.heap.size + 1, 0, none⟩ = some (.bool s) ∧ x.cell? ⟨w.heap.size + 1, 1, none⟩ = some (.int .i64 H.toInt) ∧ x.cell? ⟨w.heap.size + 1, 2, none⟩ = some (.int .i64 L.toInt) ∧ Below w4.heap.size w4 x)) (by kernel_rfl) ?_ (fun hHeld => ?_)
          · try dsimp only
            exact HSx.out _ (Below.refl _ _).drew
          refine wpAnyH_take (i := 0) (oi := ⟨some 18, _, _, _, _, _⟩) (v := ?_) rfl (by kernel_rfl) (by kernel_rfl) (by kernel_rfl) (fun _ _ _ h => h) (Or.inl ⟨by rfl, ?_⟩) (by assumption) ?_
          rotate_left
          · intro w hSw
            try dsimp only at hSw
            go_simp
            try with_reducible rfl
          simp only [Act.put, List.setIfInBounds_toArray, List.set_cons_zero, List.set_cons_succ]
          refine wpAnyH_take (i := 1) (oi := ⟨some 19, _, _, _, _, _⟩) (v := ?_) rfl (by kernel_rfl) (by kernel_rfl) (by kernel_rfl) (fun _ _ _ h => h) (Or.inl ⟨by rfl, ?_⟩) (by assumption) ?_
          rotate_left
          · intro w hSw
            try dsimp only at hSw
            go_simp
            try with_reducible rfl
          simp only [Act.put, List.setIfInBounds_toArray, List.set_cons_zero, List.set_cons_succ]
          refine wpAnyH_take (i := 2) (oi := ⟨some 20, _, _, _, _, _⟩) (v := ?_) rfl (by kernel_rfl) (by kernel_rfl) (by kernel_rfl) (fun _ _ _ h => h) (Or.inl ⟨by rfl, ?_⟩) (by assumption) ?_
          rotate_left
          · intro w hSw
            try dsimp only at hSw
            go_simp
            try with_reducible rfl
          simp only [Act.put, List.setIfInBounds_toArray, List.set_cons_zero, List.set_cons_succ]
          refine wpAnyH_take (i := 3) (oi := ⟨some 21, _, _, _, _, _⟩) (v := ?_) rfl (by kernel_rfl) (by kernel_rfl) (by kernel_rfl) (fun _ _ _ h => h) (Or.inl ⟨by rfl, ?_⟩) (by assumption) ?_
          rotate_left
          · intro w hSw
            try dsimp only at hSw
            go_simp
            try with_reducible rfl
          simp only [Act.put, List.setIfInBounds_toArray, List.set_cons_zero, List.set_cons_succ]
          refine wpAnyH_take (i := 4) (oi := ⟨some 22, _, _, _, _, _⟩) (v := ?_) rfl (by kernel_rfl) (by kernel_rfl) (by kernel_rfl) (fun _ _ _ h => h) (Or.inl ⟨by rfl, ?_⟩) (by assumption) ?_
          rotate_left
          · intro w hSw
            try dsimp only at hSw
            go_simp
            try with_reducible rfl
          simp only [Act.put, List.setIfInBounds_toArray, List.set_cons_zero, List.set_cons_succ]
          refine wpAnyH_take (i := 5) (oi := ⟨some 23, _, _, _, _, _⟩) (v := ?_) rfl (by kernel_rfl) (by kernel_rfl) (by kernel_rfl) (fun _ _ _ h => h) (Or.inl ⟨by rfl, ?_⟩) (by assumption) ?_
          rotate_left
          · intro w hSw
            try dsimp only at hSw
            go_simp
            try with_reducible rfl
          simp only [Act.put, List.setIfInBounds_toArray, List.set_cons_zero, List.set_cons_succ]
          refine wpAnyH_take (i := 6) (oi := ⟨some 24, _, _, _, _, _⟩) (v := ?_) rfl (by kernel_rfl) (by kernel_rfl) (by kernel_rfl) (fun _ _ _ h => h) (Or.inl ⟨by rfl, ?_⟩) (by assumption) ?_
          rotate_left
          · intro w hSw
            try dsimp only at hSw
            go_simp
            try with_reducible rfl
          simp only [Act.put, List.setIfInBounds_toArray, List.set_cons_zero, List.set_cons_succ]
          refine wpAnyH_ready (rs := [7]) (by kernel_rfl) (by simp) ?_
          refine AllReadyH.cons rfl (fun K hK => ?_) AllReadyH.nil
          go_simp
          go_wp2_with (first | (go_at_call 66; refine (HH.out _).mono ?_; rintro e w6 ⟨rfl, hb6⟩; have b6 := (hHeld.2.2.2.2.2.2.2.2.2).trans (hb6.mono (hHeld.2.2.2.2.2.2.2.2.2).size)))
          refine hK.out _ _ ?_ (fun hHeld => ?_)
          · try dsimp only
            exact HSx.out _ b6
          clear hK K
          have HE := hidP (hHeld.2.2.2.2.2.2.2.2.2)
          refine wpAnyH_done (by kernel_rfl) ?_ _
          clear hHeld
          have hb6 := HE.out
          have hz6 : w.heap.size + 3 ≤ w6.heap.size := by have := hb6.size; omega
          have U0t := (hb6.cell (show w.heap.size < w4.heap.size by omega)).trans U0a
          have U1t := (hb6.cell (show w.heap.size < w4.heap.size by omega)).trans U1a
          have A0t := (hb6.cell (show w.heap.size + 1 < w4.heap.size by omega)).trans A0a
          have A1t := (hb6.cell (show w.heap.size + 1 < w4.heap.size by omega)).trans A1a
          have A2t := (hb6.cell (show w.heap.size + 1 < w4.heap.size by omega)).trans A2a
          have k0t := (hb6.cell (show w.heap.size + 1 + 1 < w4.heap.size by omega)).trans k0a
          have k1t := (hb6.cell (show w.heap.size + 1 + 1 < w4.heap.size by omega)).trans k1a
          have k2t := (hb6.cell (show w.heap.size + 1 + 1 < w4.heap.size by omega)).trans k2a
          have k3t := (hb6.cell (show w.heap.size + 1 + 1 < w4.heap.size by omega)).trans k3a
          have k4t := (hb6.cell (show w.heap.size + 1 + 1 < w4.heap.size by omega)).trans k4a
          have kFt : ∀ o, w6.frozen? ⟨w.heap.size + 1 + 1, o, none⟩ = false := fun o => (hb6.frozen (show w.heap.size + 1 + 1 < w4.heap.size by omega)).trans (kFa o)
          clear U0a U1a A0a A1a A2a k0a k1a k2a k3a k4a kFa
          have e0 := (hb6.cell dL).trans d0
          have e1 := (hb6.cell dL).trans d1
          have e2 := (hb6.cell dL).trans d2
          have e3 := (hb6.cell dL).trans d3
          have e4 := (hb6.cell dL).trans d4
          have B6 := hidP (B4.out.trans (hb6.mono B4.out.size))
          clear hb6 d0 d1 d2 d3 d4
          go_wp2_with fail
          refine bodyPost_ret (v := .tuple #[.agg #[.bool q.p.s, .int .i64 q.p.H.toInt, .int .i64 q.p.L.toInt, .int .i64 q.p.b, .string q.t], .bool true]) (by simp [results, Try.results24, go_sem, k0t, k1t, k2t, k3t, k4t]) rfl ⟨ret_bk (a := (q, true)) HF.out.symm, ?_⟩
          repeat (with_reducible refine Below.setCell ?_ ?_ _; rotate_left; (focus (first | omega | (simp; omega))))
          exact B6.out
    · have gk : decide ((k : Int) < (nb : Int)) = false := decide_eq_false (by omega)
      have HF : Hid (bkR r s H L bs = (Bk.zero, false)) := by
        rw [List.drop_of_length_le (by have := HN.out; omega)] at hix
        refine hidP (hix.trans ?_)
        unfold bkR; split <;> rfl
      clear hbel hix
      go_wp2_with fail
      refine bodyPost_ret (v := .tuple #[.agg #[.bool false, .int .i64 0, .int .i64 0, .int .i64 0, .string ⟨#[]⟩], .bool false]) (by simp [results, Try.results24, go_sem, k0r, k1r, k2r, k3r, k4r]) rfl ⟨ret_bk (a := (Bk.zero, false)) HF.out.symm, ?_⟩
      repeat (with_reducible refine Below.setCell ?_ ?_ _; rotate_left; (focus (first | omega | (simp; omega))))
      exact BR.out

end Go.Proofs.Ythbpehpnikknlaa

namespace Go.Proofs.Ythbpehpnikknlaa
open Go.ChangeShapes Go.WideShapes Go.ChangeAt Go.RowKit Go.Joins Go.Deep

theorem slice_of {H : Type} {enc : TypeId × Value → H} {W : World} {t e : TypeId} {n : Nat} {u : Value} {y : DataW H × List MemPlace} (ht : Try.prog.underlying t = some (.slice e)) (h : DataW.trod enc Try.prog W 0 (fun _ => true) true n t [u] = some y) : ∃ a l c, u = .slice a l c := by
  rcases open_slice ht h with ⟨hcs, _⟩ | ⟨a', len', cap', m, n', D, Plc, hcs, _⟩
  · simp at hcs; exact ⟨_, _, _, hcs⟩
  · simp at hcs; exact ⟨_, _, _, hcs⟩
theorem Try.cellsPn : Try.prog.cellsOf 26 = 2 := by kernel_rfl
set_option maxRecDepth 100000 in
/-- A plan that came in. -/
theorem openPlan {H : Type} {enc : TypeId × Value → H} {W : World} {r : Reach} {b0 : Nat} {v : Value} {d : DataW H} {p : List MemPlace} (hv : Value.okWide Try.prog W r b0 26 v)
    (h : DataW.Trod enc Try.prog W 0 (fun _ => true) true 26 v d p) : ∃ (ap : Option Addr) (np cp : Nat) (ab : Option Addr) (nb cb : Nat) (ps : List Pl) (bs : List Bk), v = .agg #[.slice ap np cp, .slice ab nb cb] ∧ np = ps.length ∧ nb = bs.length ∧ RowG KPl W ap ps ∧ RowG KBk W ab bs ∧ np ≤ 9223372036854775807 ∧ nb ≤ 9223372036854775807 ∧ ∀ q ∈ bs, q.t.size ≤ 9223372036854775807 := by
  obtain ⟨v0, v1, y0, y1, n, rfl, rfl, rfl, t0, t1⟩ := open_agg2 Try.underlying26 (by kernel_rfl) Try.cellsPn hv h
  obtain ⟨ap, np, cp, rfl⟩ := slice_of Try.underlying23 t0
  obtain ⟨ab, nb, cb, rfl⟩ := slice_of Try.underlying24 t1
  obtain ⟨ps, e1, l1, r1⟩ := openPl (enc := enc) (W := W) (a := ap) (len := np) (cap := cp) (d := y0.1) (p := y0.2) ⟨n, by simpa [Value.cells] using t0⟩
  obtain ⟨bs, e2, l2, r2, s2⟩ := openBk2 (enc := enc) (W := W) (a := ab) (len := nb) (cap := cb) (d := y1.1) (p := y1.2) ⟨n, by simpa [Value.cells] using t1⟩
  exact ⟨ap, np, cp, ab, nb, cb, ps, bs, rfl, e1.symm, e2.symm, r1, r2, l1, l2, s2⟩

theorem trodAll_nil {H : Type} {enc : TypeId × Value → H} {P : Program} {W : World} {base : Nat} {sp : Nat → Bool} {held : Bool} {ts : List TypeId} {vs : List Value} {ds : List (DataW H)} {p : List MemPlace} (h : DataW.TrodAll enc P W base sp held ts vs ds (p ++ [])) : DataW.TrodAll enc P W base sp held ts vs ds p := by
  rw [List.append_nil] at h; exact h
theorem drew_cell (w : World) (a : Addr) : w.drew.cell? a = w.cell? a := rfl
theorem drew_frozen (w : World) (a : Addr) : w.drew.frozen? a = w.frozen? a := rfl
theorem drew_size_lt {w : World} {n : Nat} (h : n < w.heap.size) : n < w.drew.heap.size := h

set_option maxRecDepth 10000 in
set_option maxHeartbeats 8000000 in
theorem lawBlockOf (s : Bool) (H L : BitVec 64) (ap : Option Addr) (np cp : Nat) (ab : Option Addr) (nb cb : Nat) (ps : List Pl) (bs : List Bk) (w : World) (hnp : np = ps.length) (hnb : nb = bs.length) (hP : RowG KPl w ap ps) (hK : RowG KBk w ab bs) (h9 : np ≤ 9223372036854775807) (h9' : nb ≤ 9223372036854775807) (hst : ∀ q ∈ bs, q.t.size ≤ 9223372036854775807) :
    Calls Try.prog 7 #[.agg #[.slice ap np cp, .slice ab nb cb], .agg #[.bool s, .int .i64 H.toInt, .int .i64 L.toInt]] w fun e w' => e = .returned (.bool true) ∧ Below w.heap.size w w' := by
  have HSz := hidP (fun W h => szPlan_any ap np cp ab nb cb ps bs W hnp hnb (hK.later h) h9 h9' hst)
  by_cases ht : totP ps bs ≤ 1048576
  · rw [szT_yes ht] at HSz
    have hl : np ≤ 1048576 := by unfold totP at ht; omega
    have hl' : nb ≤ 1048576 := by unfold totP at ht; omega
    have HTo := hidP (fun W h => toPlan_any ap np cp ab nb cb ps bs W hnp hnb (hP.later h) (hK.later h) hl hl')
    have HTa := hidP (toAddr_any s H.toInt L.toInt)
    have HSp := hidP (fun W g h e1 e2 => sBlockOf_any s H L (some ⟨g, 0, none⟩) np np (some ⟨h, 0, none⟩) nb nb ps bs W hnp hnb e1 e2 (by omega) (by omega) hst)
    have HIm := hidP (fun W g h e1 e2 => iBlockOf_any s H L (some ⟨g, 0, none⟩) np np (some ⟨h, 0, none⟩) nb nb ps bs W hnp hnb e1 e2 (by omega) (by omega) hst)
    have HEq := hidP (fun W g h g' h' e1 e2 e3 e4 => eqPlan_same (some ⟨g, 0, none⟩) (some ⟨g', 0, none⟩) np np np (some ⟨h, 0, none⟩) (some ⟨h', 0, none⟩) nb nb nb ps bs W hnp hnb e1 e2 e3 e4 (by omega) (by omega))
    obtain ⟨q, hq⟩ : ∃ q, q = (bkR (planB ps bs) s H L bs).1 := ⟨_, rfl⟩
    obtain ⟨r, hr⟩ : ∃ r, r = (bkR (planB ps bs) s H L bs).2 := ⟨_, rfl⟩
    rw [← hq, ← hr] at HSp HIm
    have HEb := hidP (eqBlock_same q)
    clear hq hr
    have d1 : decide (1048576 - totP ps bs < 0) = false := decide_eq_false (by omega)
    have d2 : ¬ (1048576 - totP ps bs < 0) := by omega
    generalize 1048576 - totP ps bs = z at *
    clear hP hK hnp hnb hst ht
    go_enter Try.func7, Try.ntmps7
    go_wp2_with fail
    obtain ⟨u0, u1⟩ := box2 (u := .slice ap np cp) (v := .slice ab nb cb) w 26
    have uB := alloc_below w (.cells #[.slice ap np cp, .slice ab nb cb] 26)
    have uL := alloc_lt w (.cells #[.slice ap np cp, .slice ab nb cb] 26)
    have uS : (w.alloc (.cells #[.slice ap np cp, .slice ab nb cb] 26)).heap.size = w.heap.size + 1 := by simp
    generalize w.alloc (.cells #[.slice ap np cp, .slice ab nb cb] 26) = W1 at *
    obtain ⟨a0, a1, a2⟩ := box3A (s := s) (H := H) (L := L) W1 37
    have aB := alloc_below W1 (.cells #[.bool s, .int .i64 H.toInt, .int .i64 L.toInt] 37)
    have aL := alloc_lt W1 (.cells #[.bool s, .int .i64 H.toInt, .int .i64 L.toInt] 37)
    have aS : (W1.alloc (.cells #[.bool s, .int .i64 H.toInt, .int .i64 L.toInt] 37)).heap.size = W1.heap.size + 1 := by simp
    generalize W1.alloc (.cells #[.bool s, .int .i64 H.toInt, .int .i64 L.toInt] 37) = W2 at *
    rw [uS] at a0 a1 a2 aL aS
    have s0 := (aB.cell uL).trans u0
    have s1 := (aB.cell uL).trans u1
    have sL : w.heap.size < W2.heap.size := by omega
    have B1 := hidP (uB.trans (aB.mono uB.size))
    clear uB uS aB aS u0 u1 uL
    refine (HSz.out _ B1.out).mono ?_
    rintro e w2 ⟨rfl, hb2⟩
    have z0 := (hb2.cell sL).trans s0
    have z1 := (hb2.cell sL).trans s1
    have y0 := (hb2.cell aL).trans a0
    have y1 := (hb2.cell aL).trans a1
    have y2 := (hb2.cell aL).trans a2
    have zL : w.heap.size < w2.heap.size := Nat.lt_of_lt_of_le sL hb2.size
    have yL : w.heap.size + 1 < w2.heap.size := Nat.lt_of_lt_of_le aL hb2.size
    have B2 := hidP (B1.out.trans (hb2.mono B1.out.size))
    clear hb2 s0 s1 sL a0 a1 a2 aL
    go_upto_region 5 with fail
    go_cut [6, 7] (fun t6 t7 X => ∃ p : Nat, t6 = .pointer (some ⟨p, 0, none⟩) ∧ t7 = .bool r ∧ w2.heap.size ≤ p ∧ p < X.heap.size ∧ X.cell? ⟨p, 0, none⟩ = some (.bool q.p.s) ∧ X.cell? ⟨p, 1, none⟩ = some (.int .i64 q.p.H.toInt) ∧ X.cell? ⟨p, 2, none⟩ = some (.int .i64 q.p.L.toInt) ∧ X.cell? ⟨p, 3, none⟩ = some (.int .i64 q.p.b) ∧ X.cell? ⟨p, 4, none⟩ = some (.string q.t) ∧ Below w2.heap.size w2 X)
    case first =>
      have HSx : Hid (∀ x, Below w2.heap.size w2 x → (x.cell? ⟨w.heap.size, 0, none⟩ = some (.slice ap np cp) ∧ x.cell? ⟨w.heap.size, 1, none⟩ = some (.slice ab nb cb) ∧ x.cell? ⟨w.heap.size + 1, 0, none⟩ = some (.bool s) ∧ x.cell? ⟨w.heap.size + 1, 1, none⟩ = some (.int .i64 H.toInt) ∧ x.cell? ⟨w.heap.size + 1, 2, none⟩ = some (.int .i64 L.toInt) ∧ Below w2.heap.size w2 x)) := hidP fun x h =>
        ⟨(h.cell zL).trans z0, (h.cell zL).trans z1, (h.cell yL).trans y0, (h.cell yL).trans y1, (h.cell yL).trans y2, h⟩
      refine wp_region_held_drew (S := (fun x => x.cell? ⟨w.heap.size, 0, none⟩ = some (.slice ap np cp) ∧ x.cell? ⟨w.heap.size, 1, none⟩ = some (.slice ab nb cb) ∧ x.cell? ⟨w.heap.size + 1, 0, none⟩ = some (.bool s) ∧ x.cell? ⟨w.heap.size + 1, 1, none⟩ = some (.int .i64 H.toInt) ∧ x.cell? ⟨w.heap.size + 1, 2, none⟩ = some (.int .i64 L.toInt) ∧ Below w2.heap.size w2 x)) (by kernel_rfl) ?_ (fun hHeld => ?_)
      · try dsimp only
        exact HSx.out _ (Below.refl _ _).drew
      refine wpAnyH_take (i := 0) (oi := ⟨some 17, _, _, _, _, _⟩) (v := ?_) rfl (by kernel_rfl) (by kernel_rfl) (by kernel_rfl) (fun _ _ _ h => h) (Or.inl ⟨by rfl, ?_⟩) (by assumption) ?_
      rotate_left
      · intro w hSw
        try dsimp only at hSw
        go_simp
        try with_reducible rfl
      simp only [Act.put, List.setIfInBounds_toArray, List.set_cons_zero, List.set_cons_succ]
      refine wpAnyH_take (i := 2) (oi := ⟨some 19, _, _, _, _, _⟩) (v := ?_) rfl (by kernel_rfl) (by kernel_rfl) (by kernel_rfl) (fun _ _ _ h => h) (Or.inl ⟨by rfl, ?_⟩) (by assumption) ?_
      rotate_left
      · intro w hSw
        try dsimp only at hSw
        go_simp
        try with_reducible rfl
      simp only [Act.put, List.setIfInBounds_toArray, List.set_cons_zero, List.set_cons_succ]
      refine wpAnyH_ready (rs := [1, 8]) (by kernel_rfl) (by simp) ?_
      refine AllReadyH.cons rfl (fun K hK => ?_) (AllReadyH.cons rfl (fun K hK => ?_) AllReadyH.nil)
      · go_simp
        go_wp2_with (first | (go_at_call 13; refine (HTo.out _ (B2.out.trans ((hHeld.2.2.2.2.2).mono B2.out.size))).mono ?_; rintro e w3 ⟨g3, h3, rfl, og3, oh3, gh3, hb3⟩; have b3 := (hHeld.2.2.2.2.2).trans (hb3.mono (hHeld.2.2.2.2.2).size)))
        refine hK.out _ _ ?_ (fun hHeld => ?_)
        · try dsimp only
          exact HSx.out _ b3
        clear hK K
        refine wpAnyH_ready (rs := [3, 8]) (by kernel_rfl) (by simp) ?_
        refine AllReadyH.cons rfl (fun K hK => ?_) (AllReadyH.cons rfl (fun K hK => ?_) AllReadyH.nil)
        · go_simp
          go_wp2_with (first | (go_at_call 25; refine (HTa.out _).mono ?_; rintro e w4 ⟨rfl, hb4⟩; have b4 := (hHeld.2.2.2.2.2).trans (hb4.mono (hHeld.2.2.2.2.2).size)))
          refine hK.out _ _ ?_ (fun hHeld => ?_)
          · try dsimp only
            exact HSx.out _ b4
          clear hK K
          refine wpAnyH_ready (rs := [4, 8]) (by kernel_rfl) (by simp) ?_
          refine AllReadyH.cons rfl (fun K hK => ?_) (AllReadyH.cons rfl (fun K hK => ?_) AllReadyH.nil)
          · go_simp
            go_wp2_with (first | (go_at_call 24; refine (HSp.out _ g3 h3 (RowG.later og3.row hb4) (RowG.later oh3.row hb4)).mono ?_; rintro e w5 ⟨rfl, hb5⟩; have b5 := (hHeld.2.2.2.2.2).trans (hb5.mono (hHeld.2.2.2.2.2).size)))
            refine hK.out _ _ ?_ (fun hHeld => ?_)
            · try dsimp only
              exact HSx.out _ b5
            clear hK K
            refine wpAnyH_take (i := 5) (oi := ⟨some 16, _, _, _, _, _⟩) (v := ?_) rfl (by kernel_rfl) (by kernel_rfl) (by kernel_rfl) (fun _ _ _ h => h) (Or.inl ⟨by rfl, ?_⟩) (by assumption) ?_
            rotate_left
            · intro w hSw
              try dsimp only at hSw
              go_simp
              try with_reducible rfl
            simp only [Act.put, List.setIfInBounds_toArray, List.set_cons_zero, List.set_cons_succ]
            refine wpAnyH_take (i := 6) (oi := ⟨some 22, _, _, _, _, _⟩) (v := ?_) rfl (by kernel_rfl) (by kernel_rfl) (by kernel_rfl) (fun _ _ _ h => h) (Or.inl ⟨by rfl, ?_⟩) (by assumption) ?_
            rotate_left
            · intro w hSw
              try dsimp only at hSw
              go_simp
              try with_reducible rfl
            simp only [Act.put, List.setIfInBounds_toArray, List.set_cons_zero, List.set_cons_succ]
            refine wpAnyH_take (i := 7) (oi := ⟨some 23, _, _, _, _, _⟩) (v := ?_) rfl (by kernel_rfl) (by kernel_rfl) (by kernel_rfl) (fun _ _ _ h => h) (Or.inl ⟨by rfl, ?_⟩) (by assumption) ?_
            rotate_left
            · intro w hSw
              try dsimp only at hSw
              go_simp
              try with_reducible rfl
            simp only [Act.put, List.setIfInBounds_toArray, List.set_cons_zero, List.set_cons_succ]
            refine wpAnyH_ready (rs := [8]) (by kernel_rfl) (by simp) ?_
            refine AllReadyH.cons rfl (fun K hK => ?_) AllReadyH.nil
            go_simp
            obtain ⟨z6x0, z6x1, z6x2, z6x3, z6x4⟩ := boxZ w5 56
            have z6F := frzZ w5 56
            have z6B := alloc_below w5 (.cells #[.bool false, .int .i64 0, .int .i64 0, .int .i64 0, .string ⟨#[]⟩] 56)
            have z6L := alloc_lt w5 (.cells #[.bool false, .int .i64 0, .int .i64 0, .int .i64 0, .string ⟨#[]⟩] 56)
            have z6M := (hHeld.2.2.2.2.2).trans (z6B.mono (hHeld.2.2.2.2.2).size)
            generalize w5.alloc (.cells #[.bool false, .int .i64 0, .int .i64 0, .int .i64 0, .string ⟨#[]⟩] 56) = w6 at *
            refine hK.out _ _ ?_ (fun hHeld => ?_)
            · try dsimp only
              exact HSx.out _ z6M
            clear hK K
            have bl6 : w2.heap.size ≤ w5.heap.size := b5.size
            refine wpAnyH_ready (rs := [9]) (by kernel_rfl) (by simp) ?_
            refine AllReadyH.cons rfl (fun K hK => ?_) AllReadyH.nil
            go_simp
            refine hK.out _ _ ?_ (fun hHeld => ?_)
            · try dsimp only
              refine HSx.out _ ?_
              repeat (with_reducible refine Below.setCell ?_ ?_ _; rotate_left; (focus (exact (bl6))))
              exact (hHeld.2.2.2.2.2)
            clear hK K
            refine wpAnyH_take (i := 10) (oi := ⟨some 7, _, _, _, _, _⟩) (v := ?_) rfl (by kernel_rfl) (by kernel_rfl) (by kernel_rfl) (fun _ _ _ h => h) (Or.inl ⟨by rfl, ?_⟩) (by assumption) ?_
            rotate_left
            · intro w hSw
              try dsimp only at hSw
              go_simp
              try with_reducible rfl
            simp only [Act.put, List.setIfInBounds_toArray, List.set_cons_zero, List.set_cons_succ]
            have HE := hidP (hHeld.2.2.2.2.2)
            refine wpAnyH_done (by kernel_rfl) ?_ _
            clear hHeld
            go_wp2_with fail
            go_meet
            refine ⟨_, rfl, rfl, bl6, ?_, ?_, ?_, ?_, ?_, ?_, HE.out⟩
            · simp; exact z6L
            all_goals (simp [go_sem, z6x0, z6x1, z6x2, z6x3, z6x4])
          · go_simp
            obtain ⟨z5x0, z5x1, z5x2, z5x3, z5x4⟩ := boxZ w4 56
            have z5F := frzZ w4 56
            have z5B := alloc_below w4 (.cells #[.bool false, .int .i64 0, .int .i64 0, .int .i64 0, .string ⟨#[]⟩] 56)
            have z5L := alloc_lt w4 (.cells #[.bool false, .int .i64 0, .int .i64 0, .int .i64 0, .string ⟨#[]⟩] 56)
            have z5M := (hHeld.2.2.2.2.2).trans (z5B.mono (hHeld.2.2.2.2.2).size)
            generalize w4.alloc (.cells #[.bool false, .int .i64 0, .int .i64 0, .int .i64 0, .string ⟨#[]⟩] 56) = w5 at *
            refine hK.out _ _ ?_ (fun hHeld => ?_)
            · try dsimp only
              exact HSx.out _ z5M
            clear hK K
            have bl5 : w2.heap.size ≤ w4.heap.size := b4.size
            refine wpAnyH_ready (rs := [4]) (by kernel_rfl) (by simp) ?_
            refine AllReadyH.cons rfl (fun K hK => ?_) AllReadyH.nil
            go_simp
            go_wp2_with (first | (go_at_call 24; refine (HSp.out _ g3 h3 (RowG.later (RowG.later og3.row hb4) z5B) (RowG.later (RowG.later oh3.row hb4) z5B)).mono ?_; rintro e w6 ⟨rfl, hb6⟩; have b6 := (hHeld.2.2.2.2.2).trans (hb6.mono (hHeld.2.2.2.2.2).size)))
            refine hK.out _ _ ?_ (fun hHeld => ?_)
            · try dsimp only
              exact HSx.out _ b6
            clear hK K
            have z6x0 := (hb6.cell z5L).trans z5x0
            have z6x1 := (hb6.cell z5L).trans z5x1
            have z6x2 := (hb6.cell z5L).trans z5x2
            have z6x3 := (hb6.cell z5L).trans z5x3
            have z6x4 := (hb6.cell z5L).trans z5x4
            have z6F : ∀ o, w6.frozen? ⟨w4.heap.size, o, none⟩ = false := fun o => (hb6.frozen z5L).trans (z5F o)
            have z6L : w4.heap.size < w6.heap.size := Nat.lt_of_lt_of_le z5L hb6.size
            clear z5x0 z5x1 z5x2 z5x3 z5x4 z5F
            refine wpAnyH_take (i := 5) (oi := ⟨some 16, _, _, _, _, _⟩) (v := ?_) rfl (by kernel_rfl) (by kernel_rfl) (by kernel_rfl) (fun _ _ _ h => h) (Or.inl ⟨by rfl, ?_⟩) (by assumption) ?_
            rotate_left
            · intro w hSw
              try dsimp only at hSw
              go_simp
              try with_reducible rfl
            simp only [Act.put, List.setIfInBounds_toArray, List.set_cons_zero, List.set_cons_succ]
            refine wpAnyH_take (i := 6) (oi := ⟨some 22, _, _, _, _, _⟩) (v := ?_) rfl (by kernel_rfl) (by kernel_rfl) (by kernel_rfl) (fun _ _ _ h => h) (Or.inl ⟨by rfl, ?_⟩) (by assumption) ?_
            rotate_left
            · intro w hSw
              try dsimp only at hSw
              go_simp
              try with_reducible rfl
            simp only [Act.put, List.setIfInBounds_toArray, List.set_cons_zero, List.set_cons_succ]
            refine wpAnyH_take (i := 7) (oi := ⟨some 23, _, _, _, _, _⟩) (v := ?_) rfl (by kernel_rfl) (by kernel_rfl) (by kernel_rfl) (fun _ _ _ h => h) (Or.inl ⟨by rfl, ?_⟩) (by assumption) ?_
            rotate_left
            · intro w hSw
              try dsimp only at hSw
              go_simp
              try with_reducible rfl
            simp only [Act.put, List.setIfInBounds_toArray, List.set_cons_zero, List.set_cons_succ]
            refine wpAnyH_ready (rs := [9]) (by kernel_rfl) (by simp) ?_
            refine AllReadyH.cons rfl (fun K hK => ?_) AllReadyH.nil
            go_simp
            refine hK.out _ _ ?_ (fun hHeld => ?_)
            · try dsimp only
              refine HSx.out _ ?_
              repeat (with_reducible refine Below.setCell ?_ ?_ _; rotate_left; (focus (exact (bl5))))
              exact (hHeld.2.2.2.2.2)
            clear hK K
            refine wpAnyH_take (i := 10) (oi := ⟨some 7, _, _, _, _, _⟩) (v := ?_) rfl (by kernel_rfl) (by kernel_rfl) (by kernel_rfl) (fun _ _ _ h => h) (Or.inl ⟨by rfl, ?_⟩) (by assumption) ?_
            rotate_left
            · intro w hSw
              try dsimp only at hSw
              go_simp
              try with_reducible rfl
            simp only [Act.put, List.setIfInBounds_toArray, List.set_cons_zero, List.set_cons_succ]
            have HE := hidP (hHeld.2.2.2.2.2)
            refine wpAnyH_done (by kernel_rfl) ?_ _
            clear hHeld
            go_wp2_with fail
            go_meet
            refine ⟨_, rfl, rfl, bl5, ?_, ?_, ?_, ?_, ?_, ?_, HE.out⟩
            · simp; exact z6L
            all_goals (simp [go_sem, z6x0, z6x1, z6x2, z6x3, z6x4])
        · go_simp
          obtain ⟨z4x0, z4x1, z4x2, z4x3, z4x4⟩ := boxZ w3 56
          have z4F := frzZ w3 56
          have z4B := alloc_below w3 (.cells #[.bool false, .int .i64 0, .int .i64 0, .int .i64 0, .string ⟨#[]⟩] 56)
          have z4L := alloc_lt w3 (.cells #[.bool false, .int .i64 0, .int .i64 0, .int .i64 0, .string ⟨#[]⟩] 56)
          have z4M := (hHeld.2.2.2.2.2).trans (z4B.mono (hHeld.2.2.2.2.2).size)
          generalize w3.alloc (.cells #[.bool false, .int .i64 0, .int .i64 0, .int .i64 0, .string ⟨#[]⟩] 56) = w4 at *
          refine hK.out _ _ ?_ (fun hHeld => ?_)
          · try dsimp only
            exact HSx.out _ z4M
          clear hK K
          have bl4 : w2.heap.size ≤ w3.heap.size := b3.size
          refine wpAnyH_ready (rs := [3]) (by kernel_rfl) (by simp) ?_
          refine AllReadyH.cons rfl (fun K hK => ?_) AllReadyH.nil
          go_simp
          go_wp2_with (first | (go_at_call 25; refine (HTa.out _).mono ?_; rintro e w5 ⟨rfl, hb5⟩; have b5 := (hHeld.2.2.2.2.2).trans (hb5.mono (hHeld.2.2.2.2.2).size)))
          refine hK.out _ _ ?_ (fun hHeld => ?_)
          · try dsimp only
            exact HSx.out _ b5
          clear hK K
          have z5x0 := (hb5.cell z4L).trans z4x0
          have z5x1 := (hb5.cell z4L).trans z4x1
          have z5x2 := (hb5.cell z4L).trans z4x2
          have z5x3 := (hb5.cell z4L).trans z4x3
          have z5x4 := (hb5.cell z4L).trans z4x4
          have z5F : ∀ o, w5.frozen? ⟨w3.heap.size, o, none⟩ = false := fun o => (hb5.frozen z4L).trans (z4F o)
          have z5L : w3.heap.size < w5.heap.size := Nat.lt_of_lt_of_le z4L hb5.size
          clear z4x0 z4x1 z4x2 z4x3 z4x4 z4F
          refine wpAnyH_ready (rs := [4]) (by kernel_rfl) (by simp) ?_
          refine AllReadyH.cons rfl (fun K hK => ?_) AllReadyH.nil
          go_simp
          go_wp2_with (first | (go_at_call 24; refine (HSp.out _ g3 h3 (RowG.later (RowG.later og3.row z4B) hb5) (RowG.later (RowG.later oh3.row z4B) hb5)).mono ?_; rintro e w6 ⟨rfl, hb6⟩; have b6 := (hHeld.2.2.2.2.2).trans (hb6.mono (hHeld.2.2.2.2.2).size)))
          refine hK.out _ _ ?_ (fun hHeld => ?_)
          · try dsimp only
            exact HSx.out _ b6
          clear hK K
          have z6x0 := (hb6.cell z5L).trans z5x0
          have z6x1 := (hb6.cell z5L).trans z5x1
          have z6x2 := (hb6.cell z5L).trans z5x2
          have z6x3 := (hb6.cell z5L).trans z5x3
          have z6x4 := (hb6.cell z5L).trans z5x4
          have z6F : ∀ o, w6.frozen? ⟨w3.heap.size, o, none⟩ = false := fun o => (hb6.frozen z5L).trans (z5F o)
          have z6L : w3.heap.size < w6.heap.size := Nat.lt_of_lt_of_le z5L hb6.size
          clear z5x0 z5x1 z5x2 z5x3 z5x4 z5F
          refine wpAnyH_take (i := 5) (oi := ⟨some 16, _, _, _, _, _⟩) (v := ?_) rfl (by kernel_rfl) (by kernel_rfl) (by kernel_rfl) (fun _ _ _ h => h) (Or.inl ⟨by rfl, ?_⟩) (by assumption) ?_
          rotate_left
          · intro w hSw
            try dsimp only at hSw
            go_simp
            try with_reducible rfl
          simp only [Act.put, List.setIfInBounds_toArray, List.set_cons_zero, List.set_cons_succ]
          refine wpAnyH_take (i := 6) (oi := ⟨some 22, _, _, _, _, _⟩) (v := ?_) rfl (by kernel_rfl) (by kernel_rfl) (by kernel_rfl) (fun _ _ _ h => h) (Or.inl ⟨by rfl, ?_⟩) (by assumption) ?_
          rotate_left
          · intro w hSw
            try dsimp only at hSw
            go_simp
            try with_reducible rfl
          simp only [Act.put, List.setIfInBounds_toArray, List.set_cons_zero, List.set_cons_succ]
          refine wpAnyH_take (i := 7) (oi := ⟨some 23, _, _, _, _, _⟩) (v := ?_) rfl (by kernel_rfl) (by kernel_rfl) (by kernel_rfl) (fun _ _ _ h => h) (Or.inl ⟨by rfl, ?_⟩) (by assumption) ?_
          rotate_left
          · intro w hSw
            try dsimp only at hSw
            go_simp
            try with_reducible rfl
          simp only [Act.put, List.setIfInBounds_toArray, List.set_cons_zero, List.set_cons_succ]
          refine wpAnyH_ready (rs := [9]) (by kernel_rfl) (by simp) ?_
          refine AllReadyH.cons rfl (fun K hK => ?_) AllReadyH.nil
          go_simp
          refine hK.out _ _ ?_ (fun hHeld => ?_)
          · try dsimp only
            refine HSx.out _ ?_
            repeat (with_reducible refine Below.setCell ?_ ?_ _; rotate_left; (focus (exact (bl4))))
            exact (hHeld.2.2.2.2.2)
          clear hK K
          refine wpAnyH_take (i := 10) (oi := ⟨some 7, _, _, _, _, _⟩) (v := ?_) rfl (by kernel_rfl) (by kernel_rfl) (by kernel_rfl) (fun _ _ _ h => h) (Or.inl ⟨by rfl, ?_⟩) (by assumption) ?_
          rotate_left
          · intro w hSw
            try dsimp only at hSw
            go_simp
            try with_reducible rfl
          simp only [Act.put, List.setIfInBounds_toArray, List.set_cons_zero, List.set_cons_succ]
          have HE := hidP (hHeld.2.2.2.2.2)
          refine wpAnyH_done (by kernel_rfl) ?_ _
          clear hHeld
          go_wp2_with fail
          go_meet
          refine ⟨_, rfl, rfl, bl4, ?_, ?_, ?_, ?_, ?_, ?_, HE.out⟩
          · simp; exact z6L
          all_goals (simp [go_sem, z6x0, z6x1, z6x2, z6x3, z6x4])
      · go_simp
        obtain ⟨z3x0, z3x1, z3x2, z3x3, z3x4⟩ := boxZ w2 56
        have z3F := frzZ w2 56
        have z3B := alloc_below w2 (.cells #[.bool false, .int .i64 0, .int .i64 0, .int .i64 0, .string ⟨#[]⟩] 56)
        have z3L := alloc_lt w2 (.cells #[.bool false, .int .i64 0, .int .i64 0, .int .i64 0, .string ⟨#[]⟩] 56)
        have z3x0 := (drew_cell (w2.alloc (.cells #[.bool false, .int .i64 0, .int .i64 0, .int .i64 0, .string ⟨#[]⟩] 56)) _).trans z3x0
        have z3x1 := (drew_cell (w2.alloc (.cells #[.bool false, .int .i64 0, .int .i64 0, .int .i64 0, .string ⟨#[]⟩] 56)) _).trans z3x1
        have z3x2 := (drew_cell (w2.alloc (.cells #[.bool false, .int .i64 0, .int .i64 0, .int .i64 0, .string ⟨#[]⟩] 56)) _).trans z3x2
        have z3x3 := (drew_cell (w2.alloc (.cells #[.bool false, .int .i64 0, .int .i64 0, .int .i64 0, .string ⟨#[]⟩] 56)) _).trans z3x3
        have z3x4 := (drew_cell (w2.alloc (.cells #[.bool false, .int .i64 0, .int .i64 0, .int .i64 0, .string ⟨#[]⟩] 56)) _).trans z3x4
        have z3F := fun o => (drew_frozen (w2.alloc (.cells #[.bool false, .int .i64 0, .int .i64 0, .int .i64 0, .string ⟨#[]⟩] 56)) _).trans (z3F o)
        have z3L := drew_size_lt z3L
        have z3M := z3B.drew
        generalize (w2.alloc (.cells #[.bool false, .int .i64 0, .int .i64 0, .int .i64 0, .string ⟨#[]⟩] 56)).drew = w3 at *
        refine hK.out _ _ ?_ (fun hHeld => ?_)
        · try dsimp only
          exact HSx.out _ z3M
        clear hK K
        have bl3 : w2.heap.size ≤ w2.heap.size := Nat.le_refl _
        refine wpAnyH_ready (rs := [1]) (by kernel_rfl) (by simp) ?_
        refine AllReadyH.cons rfl (fun K hK => ?_) AllReadyH.nil
        go_simp
        go_wp2_with (first | (go_at_call 13; refine (HTo.out _ (B2.out.trans ((hHeld.2.2.2.2.2).mono B2.out.size))).mono ?_; rintro e w4 ⟨g4, h4, rfl, og4, oh4, gh4, hb4⟩; have b4 := (hHeld.2.2.2.2.2).trans (hb4.mono (hHeld.2.2.2.2.2).size)))
        refine hK.out _ _ ?_ (fun hHeld => ?_)
        · try dsimp only
          exact HSx.out _ b4
        clear hK K
        have z4x0 := (hb4.cell z3L).trans z3x0
        have z4x1 := (hb4.cell z3L).trans z3x1
        have z4x2 := (hb4.cell z3L).trans z3x2
        have z4x3 := (hb4.cell z3L).trans z3x3
        have z4x4 := (hb4.cell z3L).trans z3x4
        have z4F : ∀ o, w4.frozen? ⟨w2.heap.size, o, none⟩ = false := fun o => (hb4.frozen z3L).trans (z3F o)
        have z4L : w2.heap.size < w4.heap.size := Nat.lt_of_lt_of_le z3L hb4.size
        clear z3x0 z3x1 z3x2 z3x3 z3x4 z3F
        refine wpAnyH_ready (rs := [3]) (by kernel_rfl) (by simp) ?_
        refine AllReadyH.cons rfl (fun K hK => ?_) AllReadyH.nil
        go_simp
        go_wp2_with (first | (go_at_call 25; refine (HTa.out _).mono ?_; rintro e w5 ⟨rfl, hb5⟩; have b5 := (hHeld.2.2.2.2.2).trans (hb5.mono (hHeld.2.2.2.2.2).size)))
        refine hK.out _ _ ?_ (fun hHeld => ?_)
        · try dsimp only
          exact HSx.out _ b5
        clear hK K
        have z5x0 := (hb5.cell z4L).trans z4x0
        have z5x1 := (hb5.cell z4L).trans z4x1
        have z5x2 := (hb5.cell z4L).trans z4x2
        have z5x3 := (hb5.cell z4L).trans z4x3
        have z5x4 := (hb5.cell z4L).trans z4x4
        have z5F : ∀ o, w5.frozen? ⟨w2.heap.size, o, none⟩ = false := fun o => (hb5.frozen z4L).trans (z4F o)
        have z5L : w2.heap.size < w5.heap.size := Nat.lt_of_lt_of_le z4L hb5.size
        clear z4x0 z4x1 z4x2 z4x3 z4x4 z4F
        refine wpAnyH_ready (rs := [4]) (by kernel_rfl) (by simp) ?_
        refine AllReadyH.cons rfl (fun K hK => ?_) AllReadyH.nil
        go_simp
        go_wp2_with (first | (go_at_call 24; refine (HSp.out _ g4 h4 (RowG.later og4.row hb5) (RowG.later oh4.row hb5)).mono ?_; rintro e w6 ⟨rfl, hb6⟩; have b6 := (hHeld.2.2.2.2.2).trans (hb6.mono (hHeld.2.2.2.2.2).size)))
        refine hK.out _ _ ?_ (fun hHeld => ?_)
        · try dsimp only
          exact HSx.out _ b6
        clear hK K
        have z6x0 := (hb6.cell z5L).trans z5x0
        have z6x1 := (hb6.cell z5L).trans z5x1
        have z6x2 := (hb6.cell z5L).trans z5x2
        have z6x3 := (hb6.cell z5L).trans z5x3
        have z6x4 := (hb6.cell z5L).trans z5x4
        have z6F : ∀ o, w6.frozen? ⟨w2.heap.size, o, none⟩ = false := fun o => (hb6.frozen z5L).trans (z5F o)
        have z6L : w2.heap.size < w6.heap.size := Nat.lt_of_lt_of_le z5L hb6.size
        clear z5x0 z5x1 z5x2 z5x3 z5x4 z5F
        refine wpAnyH_take (i := 5) (oi := ⟨some 16, _, _, _, _, _⟩) (v := ?_) rfl (by kernel_rfl) (by kernel_rfl) (by kernel_rfl) (fun _ _ _ h => h) (Or.inl ⟨by rfl, ?_⟩) (by assumption) ?_
        rotate_left
        · intro w hSw
          try dsimp only at hSw
          go_simp
          try with_reducible rfl
        simp only [Act.put, List.setIfInBounds_toArray, List.set_cons_zero, List.set_cons_succ]
        refine wpAnyH_take (i := 6) (oi := ⟨some 22, _, _, _, _, _⟩) (v := ?_) rfl (by kernel_rfl) (by kernel_rfl) (by kernel_rfl) (fun _ _ _ h => h) (Or.inl ⟨by rfl, ?_⟩) (by assumption) ?_
        rotate_left
        · intro w hSw
          try dsimp only at hSw
          go_simp
          try with_reducible rfl
        simp only [Act.put, List.setIfInBounds_toArray, List.set_cons_zero, List.set_cons_succ]
        refine wpAnyH_take (i := 7) (oi := ⟨some 23, _, _, _, _, _⟩) (v := ?_) rfl (by kernel_rfl) (by kernel_rfl) (by kernel_rfl) (fun _ _ _ h => h) (Or.inl ⟨by rfl, ?_⟩) (by assumption) ?_
        rotate_left
        · intro w hSw
          try dsimp only at hSw
          go_simp
          try with_reducible rfl
        simp only [Act.put, List.setIfInBounds_toArray, List.set_cons_zero, List.set_cons_succ]
        refine wpAnyH_ready (rs := [9]) (by kernel_rfl) (by simp) ?_
        refine AllReadyH.cons rfl (fun K hK => ?_) AllReadyH.nil
        go_simp
        refine hK.out _ _ ?_ (fun hHeld => ?_)
        · try dsimp only
          refine HSx.out _ ?_
          repeat (with_reducible refine Below.setCell ?_ ?_ _; rotate_left; (focus (exact (bl3))))
          exact (hHeld.2.2.2.2.2)
        clear hK K
        refine wpAnyH_take (i := 10) (oi := ⟨some 7, _, _, _, _, _⟩) (v := ?_) rfl (by kernel_rfl) (by kernel_rfl) (by kernel_rfl) (fun _ _ _ h => h) (Or.inl ⟨by rfl, ?_⟩) (by assumption) ?_
        rotate_left
        · intro w hSw
          try dsimp only at hSw
          go_simp
          try with_reducible rfl
        simp only [Act.put, List.setIfInBounds_toArray, List.set_cons_zero, List.set_cons_succ]
        have HE := hidP (hHeld.2.2.2.2.2)
        refine wpAnyH_done (by kernel_rfl) ?_ _
        clear hHeld
        go_wp2_with fail
        go_meet
        refine ⟨_, rfl, rfl, bl3, ?_, ?_, ?_, ?_, ?_, ?_, HE.out⟩
        · simp; exact z6L
        all_goals (simp [go_sem, z6x0, z6x1, z6x2, z6x3, z6x4])
    case rest =>
      obtain ⟨p1, rfl, rfl, hp1, qL, q0, q1, q2, q3, q4, hX⟩ := hcut
      have z0c := (hX.cell zL).trans z0
      have z1c := (hX.cell zL).trans z1
      have zLc : w.heap.size < wc.heap.size := Nat.lt_of_lt_of_le zL hX.size
      have y0c := (hX.cell yL).trans y0
      have y1c := (hX.cell yL).trans y1
      have y2c := (hX.cell yL).trans y2
      have yLc : w.heap.size + 1 < wc.heap.size := Nat.lt_of_lt_of_le yL hX.size
      clear z0 z1 y0 y1 y2 zL yL
      have B3 := hidP (B2.out.trans (hX.mono B2.out.size))
      have q0c := q0
      have q1c := q1
      have q2c := q2
      have q3c := q3
      have q4c := q4
      have qLc := qL
      clear hX q0 q1 q2 q3 q4 qL
      go_wp2_with fail
      refine (HTo.out _ B3.out).mono ?_
      rintro e w5 ⟨g2, h2, rfl, og2, oh2, gh2, hb5⟩
      have O2 := hidP (And.intro og2.row oh2.row)
      have z0d := (hb5.cell zLc).trans z0c
      have z1d := (hb5.cell zLc).trans z1c
      have zLd : w.heap.size < w5.heap.size := Nat.lt_of_lt_of_le zLc hb5.size
      have y0d := (hb5.cell yLc).trans y0c
      have y1d := (hb5.cell yLc).trans y1c
      have y2d := (hb5.cell yLc).trans y2c
      have yLd : w.heap.size + 1 < w5.heap.size := Nat.lt_of_lt_of_le yLc hb5.size
      have q0d := (hb5.cell qLc).trans q0c
      have q1d := (hb5.cell qLc).trans q1c
      have q2d := (hb5.cell qLc).trans q2c
      have q3d := (hb5.cell qLc).trans q3c
      have q4d := (hb5.cell qLc).trans q4c
      have qLd : p1 < w5.heap.size := Nat.lt_of_lt_of_le qLc hb5.size
      clear z0c z1c y0c y1c y2c q0c q1c q2c q3c q4c zLc yLc qLc
      have B5 := hidP (B3.out.trans (hb5.mono B3.out.size))
      clear hb5 og2 oh2 gh2
      go_upto_region 7 with fail
      obtain ⟨u0, u1⟩ := box2 (u := .slice (some ⟨g2, 0, none⟩) np np) (v := .slice (some ⟨h2, 0, none⟩) nb nb) w5 32
      have uB := alloc_below w5 (.cells #[.slice (some ⟨g2, 0, none⟩) np np, .slice (some ⟨h2, 0, none⟩) nb nb] 32)
      have uL := alloc_lt w5 (.cells #[.slice (some ⟨g2, 0, none⟩) np np, .slice (some ⟨h2, 0, none⟩) nb nb] 32)
      have uS : (w5.alloc (.cells #[.slice (some ⟨g2, 0, none⟩) np np, .slice (some ⟨h2, 0, none⟩) nb nb] 32)).heap.size = w5.heap.size + 1 := by simp
      generalize w5.alloc (.cells #[.slice (some ⟨g2, 0, none⟩) np np, .slice (some ⟨h2, 0, none⟩) nb nb] 32) = W6 at *
      have z0e := (uB.cell zLd).trans z0d
      have z1e := (uB.cell zLd).trans z1d
      have zLe : w.heap.size < W6.heap.size := Nat.lt_of_lt_of_le zLd uB.size
      have y0e := (uB.cell yLd).trans y0d
      have y1e := (uB.cell yLd).trans y1d
      have y2e := (uB.cell yLd).trans y2d
      have yLe : w.heap.size + 1 < W6.heap.size := Nat.lt_of_lt_of_le yLd uB.size
      have q0e := (uB.cell qLd).trans q0d
      have q1e := (uB.cell qLd).trans q1d
      have q2e := (uB.cell qLd).trans q2d
      have q3e := (uB.cell qLd).trans q3d
      have q4e := (uB.cell qLd).trans q4d
      have qLe : p1 < W6.heap.size := Nat.lt_of_lt_of_le qLd uB.size
      clear z0d z1d y0d y1d y2d q0d q1d q2d q3d q4d zLd yLd qLd
      have O3 := hidP (And.intro (O2.out.1.later uB) (O2.out.2.later uB))
      have B6 := hidP (B5.out.trans (uB.mono B5.out.size))
      clear uB uS O2
      go_cut [9, 10] (fun t9 t10 X => ∃ p : Nat, t9 = .pointer (some ⟨p, 0, none⟩) ∧ t10 = .bool r ∧ W6.heap.size ≤ p ∧ p < X.heap.size ∧ X.cell? ⟨p, 0, none⟩ = some (.bool q.p.s) ∧ X.cell? ⟨p, 1, none⟩ = some (.int .i64 q.p.H.toInt) ∧ X.cell? ⟨p, 2, none⟩ = some (.int .i64 q.p.L.toInt) ∧ X.cell? ⟨p, 3, none⟩ = some (.int .i64 q.p.b) ∧ X.cell? ⟨p, 4, none⟩ = some (.string q.t) ∧ Below W6.heap.size W6 X)
      case first =>
        have HSx : Hid (∀ x, Below W6.heap.size W6 x → (x.cell? ⟨w5.heap.size, 0, none⟩ = some (.slice (some ⟨g2, 0, none⟩) np np) ∧ x.cell? ⟨w5.heap.size, 1, none⟩ = some (.slice (some ⟨h2, 0, none⟩) nb nb) ∧ x.cell? ⟨w.heap.size + 1, 0, none⟩ = some (.bool s) ∧ x.cell? ⟨w.heap.size + 1, 1, none⟩ = some (.int .i64 H.toInt) ∧ x.cell? ⟨w.heap.size + 1, 2, none⟩ = some (.int .i64 L.toInt) ∧ Below W6.heap.size W6 x)) := hidP fun x h =>
          ⟨(h.cell uL).trans u0, (h.cell uL).trans u1, (h.cell yLe).trans y0e, (h.cell yLe).trans y1e, (h.cell yLe).trans y2e, h⟩
        refine wp_region_held_drew (S := (fun x => x.cell? ⟨w5.heap.size, 0, none⟩ = some (.slice (some ⟨g2, 0, none⟩) np np) ∧ x.cell? ⟨w5.heap.size, 1, none⟩ = some (.slice (some ⟨h2, 0, none⟩) nb nb) ∧ x.cell? ⟨w.heap.size + 1, 0, none⟩ = some (.bool s) ∧ x.cell? ⟨w.heap.size + 1, 1, none⟩ = some (.int .i64 H.toInt) ∧ x.cell? ⟨w.heap.size + 1, 2, none⟩ = some (.int .i64 L.toInt) ∧ Below W6.heap.size W6 x)) (by kernel_rfl) ?_ (fun hHeld => ?_)
        · try dsimp only
          exact HSx.out _ (Below.refl _ _).drew
        refine wpAnyH_take (i := 0) (oi := ⟨some 27, _, _, _, _, _⟩) (v := ?_) rfl (by kernel_rfl) (by kernel_rfl) (by kernel_rfl) (fun _ _ _ h => h) (Or.inl ⟨by rfl, ?_⟩) (by assumption) ?_
        rotate_left
        · intro w hSw
          try dsimp only at hSw
          go_simp
          try with_reducible rfl
        simp only [Act.put, List.setIfInBounds_toArray, List.set_cons_zero, List.set_cons_succ]
        refine wpAnyH_take (i := 1) (oi := ⟨some 28, _, _, _, _, _⟩) (v := ?_) rfl (by kernel_rfl) (by kernel_rfl) (by kernel_rfl) (fun _ _ _ h => h) (Or.inl ⟨by rfl, ?_⟩) (by assumption) ?_
        rotate_left
        · intro w hSw
          try dsimp only at hSw
          go_simp
          try with_reducible rfl
        simp only [Act.put, List.setIfInBounds_toArray, List.set_cons_zero, List.set_cons_succ]
        refine wpAnyH_ready (rs := [2, 7]) (by kernel_rfl) (by simp) ?_
        refine AllReadyH.cons rfl (fun K hK => ?_) (AllReadyH.cons rfl (fun K hK => ?_) AllReadyH.nil)
        · go_simp
          go_wp2_with (first | (go_at_call 25; refine (HTa.out _).mono ?_; rintro e w7 ⟨rfl, hb7⟩; have b7 := (hHeld.2.2.2.2.2).trans (hb7.mono (hHeld.2.2.2.2.2).size)))
          refine hK.out _ _ ?_ (fun hHeld => ?_)
          · try dsimp only
            exact HSx.out _ b7
          clear hK K
          refine wpAnyH_ready (rs := [3, 7]) (by kernel_rfl) (by simp) ?_
          refine AllReadyH.cons rfl (fun K hK => ?_) (AllReadyH.cons rfl (fun K hK => ?_) AllReadyH.nil)
          · go_simp
            go_wp2_with (first | (go_at_call 26; refine (HIm.out _ g2 h2 (O3.out.1.later (hHeld.2.2.2.2.2)) (O3.out.2.later (hHeld.2.2.2.2.2))).mono ?_; rintro e w8 ⟨rfl, hb8⟩; have b8 := (hHeld.2.2.2.2.2).trans (hb8.mono (hHeld.2.2.2.2.2).size)))
            refine hK.out _ _ ?_ (fun hHeld => ?_)
            · try dsimp only
              exact HSx.out _ b8
            clear hK K
            refine wpAnyH_take (i := 4) (oi := ⟨some 26, _, _, _, _, _⟩) (v := ?_) rfl (by kernel_rfl) (by kernel_rfl) (by kernel_rfl) (fun _ _ _ h => h) (Or.inl ⟨by rfl, ?_⟩) (by assumption) ?_
            rotate_left
            · intro w hSw
              try dsimp only at hSw
              go_simp
              try with_reducible rfl
            simp only [Act.put, List.setIfInBounds_toArray, List.set_cons_zero, List.set_cons_succ]
            refine wpAnyH_take (i := 5) (oi := ⟨some 31, _, _, _, _, _⟩) (v := ?_) rfl (by kernel_rfl) (by kernel_rfl) (by kernel_rfl) (fun _ _ _ h => h) (Or.inl ⟨by rfl, ?_⟩) (by assumption) ?_
            rotate_left
            · intro w hSw
              try dsimp only at hSw
              go_simp
              try with_reducible rfl
            simp only [Act.put, List.setIfInBounds_toArray, List.set_cons_zero, List.set_cons_succ]
            refine wpAnyH_take (i := 6) (oi := ⟨some 32, _, _, _, _, _⟩) (v := ?_) rfl (by kernel_rfl) (by kernel_rfl) (by kernel_rfl) (fun _ _ _ h => h) (Or.inl ⟨by rfl, ?_⟩) (by assumption) ?_
            rotate_left
            · intro w hSw
              try dsimp only at hSw
              go_simp
              try with_reducible rfl
            simp only [Act.put, List.setIfInBounds_toArray, List.set_cons_zero, List.set_cons_succ]
            refine wpAnyH_ready (rs := [7]) (by kernel_rfl) (by simp) ?_
            refine AllReadyH.cons rfl (fun K hK => ?_) AllReadyH.nil
            go_simp
            obtain ⟨z9x0, z9x1, z9x2, z9x3, z9x4⟩ := boxZ w8 56
            have z9F := frzZ w8 56
            have z9B := alloc_below w8 (.cells #[.bool false, .int .i64 0, .int .i64 0, .int .i64 0, .string ⟨#[]⟩] 56)
            have z9L := alloc_lt w8 (.cells #[.bool false, .int .i64 0, .int .i64 0, .int .i64 0, .string ⟨#[]⟩] 56)
            have z9M := (hHeld.2.2.2.2.2).trans (z9B.mono (hHeld.2.2.2.2.2).size)
            generalize w8.alloc (.cells #[.bool false, .int .i64 0, .int .i64 0, .int .i64 0, .string ⟨#[]⟩] 56) = w9 at *
            refine hK.out _ _ ?_ (fun hHeld => ?_)
            · try dsimp only
              exact HSx.out _ z9M
            clear hK K
            have bl9 : W6.heap.size ≤ w8.heap.size := b8.size
            refine wpAnyH_ready (rs := [8]) (by kernel_rfl) (by simp) ?_
            refine AllReadyH.cons rfl (fun K hK => ?_) AllReadyH.nil
            go_simp
            refine hK.out _ _ ?_ (fun hHeld => ?_)
            · try dsimp only
              refine HSx.out _ ?_
              repeat (with_reducible refine Below.setCell ?_ ?_ _; rotate_left; (focus (exact (bl9))))
              exact (hHeld.2.2.2.2.2)
            clear hK K
            refine wpAnyH_take (i := 9) (oi := ⟨some 10, _, _, _, _, _⟩) (v := ?_) rfl (by kernel_rfl) (by kernel_rfl) (by kernel_rfl) (fun _ _ _ h => h) (Or.inl ⟨by rfl, ?_⟩) (by assumption) ?_
            rotate_left
            · intro w hSw
              try dsimp only at hSw
              go_simp
              try with_reducible rfl
            simp only [Act.put, List.setIfInBounds_toArray, List.set_cons_zero, List.set_cons_succ]
            have HE := hidP (hHeld.2.2.2.2.2)
            refine wpAnyH_done (by kernel_rfl) ?_ _
            clear hHeld
            go_wp2_with fail
            go_meet
            refine ⟨_, rfl, rfl, bl9, ?_, ?_, ?_, ?_, ?_, ?_, HE.out⟩
            · simp; exact z9L
            all_goals (simp [go_sem, z9x0, z9x1, z9x2, z9x3, z9x4])
          · go_simp
            obtain ⟨z8x0, z8x1, z8x2, z8x3, z8x4⟩ := boxZ w7 56
            have z8F := frzZ w7 56
            have z8B := alloc_below w7 (.cells #[.bool false, .int .i64 0, .int .i64 0, .int .i64 0, .string ⟨#[]⟩] 56)
            have z8L := alloc_lt w7 (.cells #[.bool false, .int .i64 0, .int .i64 0, .int .i64 0, .string ⟨#[]⟩] 56)
            have z8M := (hHeld.2.2.2.2.2).trans (z8B.mono (hHeld.2.2.2.2.2).size)
            generalize w7.alloc (.cells #[.bool false, .int .i64 0, .int .i64 0, .int .i64 0, .string ⟨#[]⟩] 56) = w8 at *
            refine hK.out _ _ ?_ (fun hHeld => ?_)
            · try dsimp only
              exact HSx.out _ z8M
            clear hK K
            have bl8 : W6.heap.size ≤ w7.heap.size := b7.size
            refine wpAnyH_ready (rs := [3]) (by kernel_rfl) (by simp) ?_
            refine AllReadyH.cons rfl (fun K hK => ?_) AllReadyH.nil
            go_simp
            go_wp2_with (first | (go_at_call 26; refine (HIm.out _ g2 h2 (O3.out.1.later (hHeld.2.2.2.2.2)) (O3.out.2.later (hHeld.2.2.2.2.2))).mono ?_; rintro e w9 ⟨rfl, hb9⟩; have b9 := (hHeld.2.2.2.2.2).trans (hb9.mono (hHeld.2.2.2.2.2).size)))
            refine hK.out _ _ ?_ (fun hHeld => ?_)
            · try dsimp only
              exact HSx.out _ b9
            clear hK K
            have z9x0 := (hb9.cell z8L).trans z8x0
            have z9x1 := (hb9.cell z8L).trans z8x1
            have z9x2 := (hb9.cell z8L).trans z8x2
            have z9x3 := (hb9.cell z8L).trans z8x3
            have z9x4 := (hb9.cell z8L).trans z8x4
            have z9F : ∀ o, w9.frozen? ⟨w7.heap.size, o, none⟩ = false := fun o => (hb9.frozen z8L).trans (z8F o)
            have z9L : w7.heap.size < w9.heap.size := Nat.lt_of_lt_of_le z8L hb9.size
            clear z8x0 z8x1 z8x2 z8x3 z8x4 z8F
            refine wpAnyH_take (i := 4) (oi := ⟨some 26, _, _, _, _, _⟩) (v := ?_) rfl (by kernel_rfl) (by kernel_rfl) (by kernel_rfl) (fun _ _ _ h => h) (Or.inl ⟨by rfl, ?_⟩) (by assumption) ?_
            rotate_left
            · intro w hSw
              try dsimp only at hSw
              go_simp
              try with_reducible rfl
            simp only [Act.put, List.setIfInBounds_toArray, List.set_cons_zero, List.set_cons_succ]
            refine wpAnyH_take (i := 5) (oi := ⟨some 31, _, _, _, _, _⟩) (v := ?_) rfl (by kernel_rfl) (by kernel_rfl) (by kernel_rfl) (fun _ _ _ h => h) (Or.inl ⟨by rfl, ?_⟩) (by assumption) ?_
            rotate_left
            · intro w hSw
              try dsimp only at hSw
              go_simp
              try with_reducible rfl
            simp only [Act.put, List.setIfInBounds_toArray, List.set_cons_zero, List.set_cons_succ]
            refine wpAnyH_take (i := 6) (oi := ⟨some 32, _, _, _, _, _⟩) (v := ?_) rfl (by kernel_rfl) (by kernel_rfl) (by kernel_rfl) (fun _ _ _ h => h) (Or.inl ⟨by rfl, ?_⟩) (by assumption) ?_
            rotate_left
            · intro w hSw
              try dsimp only at hSw
              go_simp
              try with_reducible rfl
            simp only [Act.put, List.setIfInBounds_toArray, List.set_cons_zero, List.set_cons_succ]
            refine wpAnyH_ready (rs := [8]) (by kernel_rfl) (by simp) ?_
            refine AllReadyH.cons rfl (fun K hK => ?_) AllReadyH.nil
            go_simp
            refine hK.out _ _ ?_ (fun hHeld => ?_)
            · try dsimp only
              refine HSx.out _ ?_
              repeat (with_reducible refine Below.setCell ?_ ?_ _; rotate_left; (focus (exact (bl8))))
              exact (hHeld.2.2.2.2.2)
            clear hK K
            refine wpAnyH_take (i := 9) (oi := ⟨some 10, _, _, _, _, _⟩) (v := ?_) rfl (by kernel_rfl) (by kernel_rfl) (by kernel_rfl) (fun _ _ _ h => h) (Or.inl ⟨by rfl, ?_⟩) (by assumption) ?_
            rotate_left
            · intro w hSw
              try dsimp only at hSw
              go_simp
              try with_reducible rfl
            simp only [Act.put, List.setIfInBounds_toArray, List.set_cons_zero, List.set_cons_succ]
            have HE := hidP (hHeld.2.2.2.2.2)
            refine wpAnyH_done (by kernel_rfl) ?_ _
            clear hHeld
            go_wp2_with fail
            go_meet
            refine ⟨_, rfl, rfl, bl8, ?_, ?_, ?_, ?_, ?_, ?_, HE.out⟩
            · simp; exact z9L
            all_goals (simp [go_sem, z9x0, z9x1, z9x2, z9x3, z9x4])
        · go_simp
          obtain ⟨z7x0, z7x1, z7x2, z7x3, z7x4⟩ := boxZ W6 56
          have z7F := frzZ W6 56
          have z7B := alloc_below W6 (.cells #[.bool false, .int .i64 0, .int .i64 0, .int .i64 0, .string ⟨#[]⟩] 56)
          have z7L := alloc_lt W6 (.cells #[.bool false, .int .i64 0, .int .i64 0, .int .i64 0, .string ⟨#[]⟩] 56)
          have z7x0 := (drew_cell (W6.alloc (.cells #[.bool false, .int .i64 0, .int .i64 0, .int .i64 0, .string ⟨#[]⟩] 56)) _).trans z7x0
          have z7x1 := (drew_cell (W6.alloc (.cells #[.bool false, .int .i64 0, .int .i64 0, .int .i64 0, .string ⟨#[]⟩] 56)) _).trans z7x1
          have z7x2 := (drew_cell (W6.alloc (.cells #[.bool false, .int .i64 0, .int .i64 0, .int .i64 0, .string ⟨#[]⟩] 56)) _).trans z7x2
          have z7x3 := (drew_cell (W6.alloc (.cells #[.bool false, .int .i64 0, .int .i64 0, .int .i64 0, .string ⟨#[]⟩] 56)) _).trans z7x3
          have z7x4 := (drew_cell (W6.alloc (.cells #[.bool false, .int .i64 0, .int .i64 0, .int .i64 0, .string ⟨#[]⟩] 56)) _).trans z7x4
          have z7F := fun o => (drew_frozen (W6.alloc (.cells #[.bool false, .int .i64 0, .int .i64 0, .int .i64 0, .string ⟨#[]⟩] 56)) _).trans (z7F o)
          have z7L := drew_size_lt z7L
          have z7M := z7B.drew
          generalize (W6.alloc (.cells #[.bool false, .int .i64 0, .int .i64 0, .int .i64 0, .string ⟨#[]⟩] 56)).drew = w7 at *
          refine hK.out _ _ ?_ (fun hHeld => ?_)
          · try dsimp only
            exact HSx.out _ z7M
          clear hK K
          have bl7 : W6.heap.size ≤ W6.heap.size := Nat.le_refl _
          refine wpAnyH_ready (rs := [2]) (by kernel_rfl) (by simp) ?_
          refine AllReadyH.cons rfl (fun K hK => ?_) AllReadyH.nil
          go_simp
          go_wp2_with (first | (go_at_call 25; refine (HTa.out _).mono ?_; rintro e w8 ⟨rfl, hb8⟩; have b8 := (hHeld.2.2.2.2.2).trans (hb8.mono (hHeld.2.2.2.2.2).size)))
          refine hK.out _ _ ?_ (fun hHeld => ?_)
          · try dsimp only
            exact HSx.out _ b8
          clear hK K
          have z8x0 := (hb8.cell z7L).trans z7x0
          have z8x1 := (hb8.cell z7L).trans z7x1
          have z8x2 := (hb8.cell z7L).trans z7x2
          have z8x3 := (hb8.cell z7L).trans z7x3
          have z8x4 := (hb8.cell z7L).trans z7x4
          have z8F : ∀ o, w8.frozen? ⟨W6.heap.size, o, none⟩ = false := fun o => (hb8.frozen z7L).trans (z7F o)
          have z8L : W6.heap.size < w8.heap.size := Nat.lt_of_lt_of_le z7L hb8.size
          clear z7x0 z7x1 z7x2 z7x3 z7x4 z7F
          refine wpAnyH_ready (rs := [3]) (by kernel_rfl) (by simp) ?_
          refine AllReadyH.cons rfl (fun K hK => ?_) AllReadyH.nil
          go_simp
          go_wp2_with (first | (go_at_call 26; refine (HIm.out _ g2 h2 (O3.out.1.later (hHeld.2.2.2.2.2)) (O3.out.2.later (hHeld.2.2.2.2.2))).mono ?_; rintro e w9 ⟨rfl, hb9⟩; have b9 := (hHeld.2.2.2.2.2).trans (hb9.mono (hHeld.2.2.2.2.2).size)))
          refine hK.out _ _ ?_ (fun hHeld => ?_)
          · try dsimp only
            exact HSx.out _ b9
          clear hK K
          have z9x0 := (hb9.cell z8L).trans z8x0
          have z9x1 := (hb9.cell z8L).trans z8x1
          have z9x2 := (hb9.cell z8L).trans z8x2
          have z9x3 := (hb9.cell z8L).trans z8x3
          have z9x4 := (hb9.cell z8L).trans z8x4
          have z9F : ∀ o, w9.frozen? ⟨W6.heap.size, o, none⟩ = false := fun o => (hb9.frozen z8L).trans (z8F o)
          have z9L : W6.heap.size < w9.heap.size := Nat.lt_of_lt_of_le z8L hb9.size
          clear z8x0 z8x1 z8x2 z8x3 z8x4 z8F
          refine wpAnyH_take (i := 4) (oi := ⟨some 26, _, _, _, _, _⟩) (v := ?_) rfl (by kernel_rfl) (by kernel_rfl) (by kernel_rfl) (fun _ _ _ h => h) (Or.inl ⟨by rfl, ?_⟩) (by assumption) ?_
          rotate_left
          · intro w hSw
            try dsimp only at hSw
            go_simp
            try with_reducible rfl
          simp only [Act.put, List.setIfInBounds_toArray, List.set_cons_zero, List.set_cons_succ]
          refine wpAnyH_take (i := 5) (oi := ⟨some 31, _, _, _, _, _⟩) (v := ?_) rfl (by kernel_rfl) (by kernel_rfl) (by kernel_rfl) (fun _ _ _ h => h) (Or.inl ⟨by rfl, ?_⟩) (by assumption) ?_
          rotate_left
          · intro w hSw
            try dsimp only at hSw
            go_simp
            try with_reducible rfl
          simp only [Act.put, List.setIfInBounds_toArray, List.set_cons_zero, List.set_cons_succ]
          refine wpAnyH_take (i := 6) (oi := ⟨some 32, _, _, _, _, _⟩) (v := ?_) rfl (by kernel_rfl) (by kernel_rfl) (by kernel_rfl) (fun _ _ _ h => h) (Or.inl ⟨by rfl, ?_⟩) (by assumption) ?_
          rotate_left
          · intro w hSw
            try dsimp only at hSw
            go_simp
            try with_reducible rfl
          simp only [Act.put, List.setIfInBounds_toArray, List.set_cons_zero, List.set_cons_succ]
          refine wpAnyH_ready (rs := [8]) (by kernel_rfl) (by simp) ?_
          refine AllReadyH.cons rfl (fun K hK => ?_) AllReadyH.nil
          go_simp
          refine hK.out _ _ ?_ (fun hHeld => ?_)
          · try dsimp only
            refine HSx.out _ ?_
            repeat (with_reducible refine Below.setCell ?_ ?_ _; rotate_left; (focus (exact (bl7))))
            exact (hHeld.2.2.2.2.2)
          clear hK K
          refine wpAnyH_take (i := 9) (oi := ⟨some 10, _, _, _, _, _⟩) (v := ?_) rfl (by kernel_rfl) (by kernel_rfl) (by kernel_rfl) (fun _ _ _ h => h) (Or.inl ⟨by rfl, ?_⟩) (by assumption) ?_
          rotate_left
          · intro w hSw
            try dsimp only at hSw
            go_simp
            try with_reducible rfl
          simp only [Act.put, List.setIfInBounds_toArray, List.set_cons_zero, List.set_cons_succ]
          have HE := hidP (hHeld.2.2.2.2.2)
          refine wpAnyH_done (by kernel_rfl) ?_ _
          clear hHeld
          go_wp2_with fail
          go_meet
          refine ⟨_, rfl, rfl, bl7, ?_, ?_, ?_, ?_, ?_, ?_, HE.out⟩
          · simp; exact z9L
          all_goals (simp [go_sem, z9x0, z9x1, z9x2, z9x3, z9x4])
      case rest =>
        obtain ⟨p2, rfl, rfl, hp2, rL, r0, r1, r2, r3, r4, hX⟩ := hcut
        have u0e := u0
        have u1e := u1
        have uLe := uL
        clear u0 u1 uL
        have z0f := (hX.cell zLe).trans z0e
        have z1f := (hX.cell zLe).trans z1e
        have zLf : w.heap.size < wc.heap.size := Nat.lt_of_lt_of_le zLe hX.size
        have y0f := (hX.cell yLe).trans y0e
        have y1f := (hX.cell yLe).trans y1e
        have y2f := (hX.cell yLe).trans y2e
        have yLf : w.heap.size + 1 < wc.heap.size := Nat.lt_of_lt_of_le yLe hX.size
        have q0f := (hX.cell qLe).trans q0e
        have q1f := (hX.cell qLe).trans q1e
        have q2f := (hX.cell qLe).trans q2e
        have q3f := (hX.cell qLe).trans q3e
        have q4f := (hX.cell qLe).trans q4e
        have qLf : p1 < wc.heap.size := Nat.lt_of_lt_of_le qLe hX.size
        have u0f := (hX.cell uLe).trans u0e
        have u1f := (hX.cell uLe).trans u1e
        have uLf : w5.heap.size < wc.heap.size := Nat.lt_of_lt_of_le uLe hX.size
        clear z0e z1e y0e y1e y2e q0e q1e q2e q3e q4e u0e u1e zLe yLe qLe uLe
        have O4 := hidP (And.intro (O3.out.1.later hX) (O3.out.2.later hX))
        have B7 := hidP (B6.out.trans (hX.mono B6.out.size))
        clear hX O3
        go_wp2_with fail
        refine (HEb.out _).mono ?_
        rintro e w8 ⟨rfl, hb8⟩
        have z0g := (hb8.cell zLf).trans z0f
        have z1g := (hb8.cell zLf).trans z1f
        have zLg : w.heap.size < w8.heap.size := Nat.lt_of_lt_of_le zLf hb8.size
        have y0g := (hb8.cell yLf).trans y0f
        have y1g := (hb8.cell yLf).trans y1f
        have y2g := (hb8.cell yLf).trans y2f
        have yLg : w.heap.size + 1 < w8.heap.size := Nat.lt_of_lt_of_le yLf hb8.size
        have q0g := (hb8.cell qLf).trans q0f
        have q1g := (hb8.cell qLf).trans q1f
        have q2g := (hb8.cell qLf).trans q2f
        have q3g := (hb8.cell qLf).trans q3f
        have q4g := (hb8.cell qLf).trans q4f
        have qLg : p1 < w8.heap.size := Nat.lt_of_lt_of_le qLf hb8.size
        have u0g := (hb8.cell uLf).trans u0f
        have u1g := (hb8.cell uLf).trans u1f
        have uLg : w5.heap.size < w8.heap.size := Nat.lt_of_lt_of_le uLf hb8.size
        clear z0f z1f y0f y1f y2f q0f q1f q2f q3f q4f u0f u1f zLf yLf qLf uLf
        have O5 := hidP (And.intro (O4.out.1.later hb8) (O4.out.2.later hb8))
        have B8 := hidP (B7.out.trans (hb8.mono B7.out.size))
        clear hb8 O4 r0 r1 r2 r3 r4 rL
        go_wp2_with fail
        have HSx : Hid (∀ x, Below w8.heap.size w8 x → (x.cell? ⟨w.heap.size, 0, none⟩ = some (.slice ap np cp) ∧ x.cell? ⟨w.heap.size, 1, none⟩ = some (.slice ab nb cb) ∧ x.cell? ⟨w5.heap.size, 0, none⟩ = some (.slice (some ⟨g2, 0, none⟩) np np) ∧ x.cell? ⟨w5.heap.size, 1, none⟩ = some (.slice (some ⟨h2, 0, none⟩) nb nb) ∧ Below w8.heap.size w8 x)) := hidP fun x h =>
          ⟨(h.cell zLg).trans z0g, (h.cell zLg).trans z1g, (h.cell uLg).trans u0g, (h.cell uLg).trans u1g, h⟩
        refine wp_region_held_drew (S := (fun x => x.cell? ⟨w.heap.size, 0, none⟩ = some (.slice ap np cp) ∧ x.cell? ⟨w.heap.size, 1, none⟩ = some (.slice ab nb cb) ∧ x.cell? ⟨w5.heap.size, 0, none⟩ = some (.slice (some ⟨g2, 0, none⟩) np np) ∧ x.cell? ⟨w5.heap.size, 1, none⟩ = some (.slice (some ⟨h2, 0, none⟩) nb nb) ∧ Below w8.heap.size w8 x)) (by kernel_rfl) ?_ (fun hHeld => ?_)
        · try dsimp only
          exact HSx.out _ (Below.refl _ _).drew
        refine wpAnyH_take (i := 0) (oi := ⟨some 42, _, _, _, _, _⟩) (v := ?_) rfl (by kernel_rfl) (by kernel_rfl) (by kernel_rfl) (fun _ _ _ h => h) (Or.inl ⟨by rfl, ?_⟩) (by assumption) ?_
        rotate_left
        · intro w hSw
          try dsimp only at hSw
          go_simp
          try with_reducible rfl
        simp only [Act.put, List.setIfInBounds_toArray, List.set_cons_zero, List.set_cons_succ]
        refine wpAnyH_take (i := 1) (oi := ⟨some 43, _, _, _, _, _⟩) (v := ?_) rfl (by kernel_rfl) (by kernel_rfl) (by kernel_rfl) (fun _ _ _ h => h) (Or.inl ⟨by rfl, ?_⟩) (by assumption) ?_
        rotate_left
        · intro w hSw
          try dsimp only at hSw
          go_simp
          try with_reducible rfl
        simp only [Act.put, List.setIfInBounds_toArray, List.set_cons_zero, List.set_cons_succ]
        refine wpAnyH_ready (rs := [2]) (by kernel_rfl) (by simp) ?_
        refine AllReadyH.cons rfl (fun K hK => ?_) AllReadyH.nil
        go_simp
        go_wp2_with (first | (go_at_call 13; refine (HTo.out _ (B8.out.trans ((hHeld.2.2.2.2).mono B8.out.size))).mono ?_; rintro e w9 ⟨g3, h3, rfl, og3, oh3, gh3, hb9⟩; have b9 := (hHeld.2.2.2.2).trans (hb9.mono (hHeld.2.2.2.2).size)))
        refine hK.out _ _ ?_ (fun hHeld => ?_)
        · try dsimp only
          exact HSx.out _ b9
        clear hK K
        refine wpAnyH_ready (rs := [3]) (by kernel_rfl) (by simp) ?_
        refine AllReadyH.cons rfl (fun K hK => ?_) AllReadyH.nil
        go_simp
        go_wp2_with (first | (go_at_call 15; refine (HEq.out _ g2 h2 g3 h3 (O5.out.1.later (hHeld.2.2.2.2)) og3.row (O5.out.2.later (hHeld.2.2.2.2)) oh3.row).mono ?_; rintro e w10 ⟨rfl, hb10⟩; have b10 := (hHeld.2.2.2.2).trans (hb10.mono (hHeld.2.2.2.2).size)))
        refine hK.out _ _ ?_ (fun hHeld => ?_)
        · try dsimp only
          exact HSx.out _ b10
        clear hK K
        refine wpAnyH_take (i := 4) (oi := ⟨some 46, _, _, _, _, _⟩) (v := ?_) rfl (by kernel_rfl) (by kernel_rfl) (by kernel_rfl) (fun _ _ _ h => h) (Or.inl ⟨by rfl, ?_⟩) (by assumption) ?_
        rotate_left
        · intro w hSw
          try dsimp only at hSw
          go_simp
          try with_reducible rfl
        simp only [Act.put, List.setIfInBounds_toArray, List.set_cons_zero, List.set_cons_succ]
        have HE := hidP (hHeld.2.2.2.2)
        refine wpAnyH_done (by kernel_rfl) ?_ _
        clear hHeld
        go_wp2_with fail
        go_ret
        exact ⟨rfl, B8.out.trans (HE.out.mono B8.out.size)⟩
  · rw [szT_no ht] at HSz
    clear hP hK hnp hnb hst ht
    go_enter Try.func7, Try.ntmps7
    go_wp2_with fail
    obtain ⟨u0, u1⟩ := box2 (u := .slice ap np cp) (v := .slice ab nb cb) w 26
    have uB := alloc_below w (.cells #[.slice ap np cp, .slice ab nb cb] 26)
    have uL := alloc_lt w (.cells #[.slice ap np cp, .slice ab nb cb] 26)
    have uS : (w.alloc (.cells #[.slice ap np cp, .slice ab nb cb] 26)).heap.size = w.heap.size + 1 := by simp
    generalize w.alloc (.cells #[.slice ap np cp, .slice ab nb cb] 26) = W1 at *
    obtain ⟨a0, a1, a2⟩ := box3A (s := s) (H := H) (L := L) W1 37
    have aB := alloc_below W1 (.cells #[.bool s, .int .i64 H.toInt, .int .i64 L.toInt] 37)
    have aL := alloc_lt W1 (.cells #[.bool s, .int .i64 H.toInt, .int .i64 L.toInt] 37)
    have aS : (W1.alloc (.cells #[.bool s, .int .i64 H.toInt, .int .i64 L.toInt] 37)).heap.size = W1.heap.size + 1 := by simp
    generalize W1.alloc (.cells #[.bool s, .int .i64 H.toInt, .int .i64 L.toInt] 37) = W2 at *
    rw [uS] at a0 a1 a2 aL aS
    have B1 := hidP (uB.trans (aB.mono uB.size))
    clear uB aB
    refine (HSz.out _ B1.out).mono ?_
    rintro e w2 ⟨rfl, hb2⟩
    go_wp2_with fail
    go_ret
    exact ⟨rfl, B1.out.trans (hb2.mono B1.out.size)⟩

set_option maxRecDepth 100000 in
theorem blockOf_lifted (os : Os) (started : os.Started) (H : Type) (enc : TypeId × Value → H) :
    ReturnsInHanded {} Try.checked os 7 .any (Rows.fnExactBlockOfSpec.pre6 enc Try.prog Try.f7 Rows.fnExactBlockOfRow.domain false) (Rows.fnExactBlockOfSpec.post enc Try.prog Try.f7 false true false false) := by
  refine returnsInHanded_of_change (C := Try.checked) Try.ownP started (by kernel_rfl) Try.func7
    (ChangeSpec.witness6 (enc := enc) (C := Try.checked) false ⟨#[], #[.agg #[.slice none 0 0, .slice none 0 0], .agg #[.bool false, .int .i64 0, .int .i64 0]], []⟩ 8 (by kernel_rfl) (by kernel_rfl) (by kernel_rfl) (by kernel_rfl)) ?_
  intro W base args ds gs before hval0 hW _ _
  have hval : ∀ (j : Nat) t v, Try.f7.params[j]? = some t → args[j]? = some v → Value.okWide Try.prog W .any base t v := hval0
  have hW' := hW
  obtain ⟨p, q, hA0, hV, rfl, _, _⟩ := hW
  have hA : DataW.TrodAll enc Try.prog W 0 (fun _ => true) true Try.f7.params.toList args.toList ds p := hA0
  rw [Try.params7] at hA hval
  obtain ⟨v0, v1, d0, d1, p0, p1, rfl, rfl, rfl, h0, h1⟩ := trodAll_two hA
  obtain ⟨rfl, rfl⟩ := trodVars_none hV
  obtain ⟨ap, np, cp, ab, nb, cb, ps, bs, rfl, hnp, hnb, hP, hK, h9, h9', hst⟩ := openPlan (hval 0 26 v0 rfl rfl) h0
  obtain ⟨j0, j1, j2, y0, y1, y2, m0, rfl, rfl, rfl, hy0, hy1, hy2⟩ := open_agg3 Try.underlying37 (by kernel_rfl) Try.cellsPA (hval 1 37 v1 rfl rfl) h1
  obtain ⟨s0, e00, rfl⟩ := DataW.trod_bool Try.underlying4 hy0
  obtain ⟨a0, e01, rfl, wa0⟩ := DataW.trod_int Try.underlying3 hy1
  obtain ⟨b0, e02, rfl, wb0⟩ := DataW.trod_int Try.underlying3 hy2
  simp at e00 e01 e02
  subst e00 e01 e02
  clear hA0 hval0
  simp only [List.append_nil] at hW'
  have hlt : ∀ x ∈ p0, x.block < W.heap.size := fun x hx => by simpa using hW'.lt x hx
  have reads1 : ∀ (W' : World) (sp : Nat → Bool), DataW.Trod enc Try.prog W' 0 sp true 37 (.agg #[.bool s0, .int .i64 a0, .int .i64 b0]) (.agg [.lit (.bool s0), .lit (.int .i64 a0), .lit (.int .i64 b0)]) [] := fun W' sp =>
    shut_agg3 (y0 := (.lit (.bool s0), [])) (y1 := (.lit (.int .i64 a0), [])) (y2 := (.lit (.int .i64 b0), [])) Try.underlying37 (by kernel_rfl) Try.cellsPA ⟨1, by simp [DataW.trod, Try.underlying4]⟩ ⟨1, by simp [DataW.trod, Try.underlying3, wa0]⟩ ⟨1, by simp [DataW.trod, Try.underlying3, wb0]⟩
  have law := lawBlockOf s0 (BitVec.ofInt 64 a0) (BitVec.ofInt 64 b0) ap np cp ab nb cb ps bs W hnp hnb hP hK h9 h9' hst
  rw [wfP wa0, wfP wb0] at law
  refine law.mono fun e W' ⟨he, hb⟩ => ?_
  subst he
  exact ⟨_, rfl, ⟨_, _, _, [], p0, [], hW', trodAll_mk1 (shut_bool Try.underlying4 true), trodAll_nil (trodAll_mk2 (Below.trod Try.laidOutP (by kernel_rfl) (of_decide_eq_true (by kernel_rfl)) h0 hb hlt) (reads1 _ _)), rfl, hb.frame _, fun h => by cases h⟩⟩

theorem blockOf_holds : Rows.FnExactBlockOfSaid :=
  OpenClaim.holds_of_wide 7 Try.f7 rfl rfl rfl rfl rfl rfl rfl ⟨rfl, rfl, rfl, rfl, rfl⟩ rfl rfl rfl rfl rfl (by kernel_rfl) Try.func7 (by kernel_rfl)
    (of_decide_eq_true (by kernel_rfl)) (by unfold Func.isWrapper; rw [if_neg (of_decide_eq_false (by kernel_rfl))]; exact ⟨rfl, rfl⟩)
    (fun os started H enc _ => blockOf_lifted os started H enc)

end Go.Proofs.Ythbpehpnikknlaa
