/-
  Both BlockOf: the first block that has the address, of a plan that is right.
-/
import Derived.Test.YthbpehpnikknlaaVIPlan
import Derived.Test.YthbpehpnikknlaaVPlanS
import Derived.Test.YthbpehpnikknlaaVSPl2
import Derived.Test.YthbpehpnikknlaaBIHas
import Derived.Test.YthbpehpnikknlaaBSHas3
namespace Go.Proofs.Ythbpehpnikknlaa
open Go.RowKit

/-- The first block that has an address. -/
def bkF (s : Bool) (H L : BitVec 64) : List Bk → Bk × Bool
  | [] => (Bk.zero, false)
  | q :: t => if hadB q.p.s q.p.H q.p.L q.p.b s H L = true then (q, true) else bkF s H L t
def bkR (r : Bool) (s : Bool) (H L : BitVec 64) (bs : List Bk) : Bk × Bool := if r = true then bkF s H L bs else (Bk.zero, false)
theorem bkF_at (s : Bool) (H L : BitVec 64) (bs : List Bk) (k : Nat) (q : Bk) (h : bs[k]? = some q) : bkF s H L (bs.drop k) = if hadB q.p.s q.p.H q.p.L q.p.b s H L = true then (q, true) else bkF s H L (bs.drop (k + 1)) := by
  rw [drop_at h]; rfl
theorem box3A {s : Bool} {H L : BitVec 64} (w : World) (t : TypeId) : (w.alloc (.cells #[.bool s, .int .i64 H.toInt, .int .i64 L.toInt] t)).cell? ⟨w.heap.size, 0, none⟩ = some (.bool s) ∧ (w.alloc (.cells #[.bool s, .int .i64 H.toInt, .int .i64 L.toInt] t)).cell? ⟨w.heap.size, 1, none⟩ = some (.int .i64 H.toInt) ∧ (w.alloc (.cells #[.bool s, .int .i64 H.toInt, .int .i64 L.toInt] t)).cell? ⟨w.heap.size, 2, none⟩ = some (.int .i64 L.toInt) := ⟨by simp [go_sem], by simp [go_sem], by simp [go_sem]⟩
theorem boxZ (w : World) (t : TypeId) : (w.alloc (.cells #[.bool false, .int .i64 0, .int .i64 0, .int .i64 0, .string ⟨#[]⟩] t)).cell? ⟨w.heap.size, 0, none⟩ = some (.bool false) ∧ (w.alloc (.cells #[.bool false, .int .i64 0, .int .i64 0, .int .i64 0, .string ⟨#[]⟩] t)).cell? ⟨w.heap.size, 1, none⟩ = some (.int .i64 0) ∧ (w.alloc (.cells #[.bool false, .int .i64 0, .int .i64 0, .int .i64 0, .string ⟨#[]⟩] t)).cell? ⟨w.heap.size, 2, none⟩ = some (.int .i64 0) ∧ (w.alloc (.cells #[.bool false, .int .i64 0, .int .i64 0, .int .i64 0, .string ⟨#[]⟩] t)).cell? ⟨w.heap.size, 3, none⟩ = some (.int .i64 0) ∧ (w.alloc (.cells #[.bool false, .int .i64 0, .int .i64 0, .int .i64 0, .string ⟨#[]⟩] t)).cell? ⟨w.heap.size, 4, none⟩ = some (.string ⟨#[]⟩) := ⟨by simp [go_sem], by simp [go_sem], by simp [go_sem], by simp [go_sem], by simp [go_sem]⟩
theorem frzZ (w : World) (t : TypeId) (o : Nat) : (w.alloc (.cells #[.bool false, .int .i64 0, .int .i64 0, .int .i64 0, .string ⟨#[]⟩] t)).frozen? ⟨w.heap.size, o, none⟩ = false := OwnG.frozen (own_oneG KBk w 0 t Bk.zero (Nat.zero_le _)) o
theorem ret_bk {a b : Bk × Bool} (h : a = b) : Ending.returned (.tuple #[.agg #[.bool a.1.p.s, .int .i64 a.1.p.H.toInt, .int .i64 a.1.p.L.toInt, .int .i64 a.1.p.b, .string a.1.t], .bool a.2]) = Ending.returned (.tuple #[.agg #[.bool b.1.p.s, .int .i64 b.1.p.H.toInt, .int .i64 b.1.p.L.toInt, .int .i64 b.1.p.b, .string b.1.t], .bool b.2]) := by rw [h]

set_option maxRecDepth 10000 in
set_option maxHeartbeats 4000000 in
theorem iBlockOf_any (s : Bool) (H L : BitVec 64) (ap : Option Addr) (np cp : Nat) (ab : Option Addr) (nb cb : Nat) (ps : List Pl) (bs : List Bk) (w : World) (hnp : np = ps.length) (hnb : nb = bs.length) (hP : RowG KPl w ap ps) (hK : RowG KBk w ab bs) (hlp : np ≤ 9000000000) (hl : nb ≤ 9000000000) (hst : ∀ q ∈ bs, q.t.size ≤ 9223372036854775807) :
    Calls Try.prog 26 #[.agg #[.slice ap np cp, .slice ab nb cb], .agg #[.bool s, .int .i64 H.toInt, .int .i64 L.toInt]] w fun e w' => e = .returned (.tuple #[.agg #[.bool (bkR (planB ps bs) s H L bs).1.p.s, .int .i64 (bkR (planB ps bs) s H L bs).1.p.H.toInt, .int .i64 (bkR (planB ps bs) s H L bs).1.p.L.toInt, .int .i64 (bkR (planB ps bs) s H L bs).1.p.b, .string (bkR (planB ps bs) s H L bs).1.t], .bool (bkR (planB ps bs) s H L bs).2]) ∧ Below w.heap.size w w' := by
  have HPO := hidP (fun W h => iPlanOk_any ap np cp ab nb cb ps bs W hnp hnb (hP.later h) (hK.later h) hlp hl hst)
  have HBP := hidP hP
  have HBK := hidP hK
  have HN := hidP hnb
  clear hP hK hnp hnb hst
  generalize planB ps bs = r at *
  go_enter Try.func26, Try.ntmps26
  go_wp2_with fail
  obtain ⟨u0, u1⟩ := box2 (u := .slice ap np cp) (v := .slice ab nb cb) w 32
  have uB := alloc_below w (.cells #[.slice ap np cp, .slice ab nb cb] 32)
  have uL := alloc_lt w (.cells #[.slice ap np cp, .slice ab nb cb] 32)
  have uS : (w.alloc (.cells #[.slice ap np cp, .slice ab nb cb] 32)).heap.size = w.heap.size + 1 := by simp
  generalize w.alloc (.cells #[.slice ap np cp, .slice ab nb cb] 32) = W1 at *
  obtain ⟨a0, a1, a2⟩ := box3A (s := s) (H := H) (L := L) W1 44
  have aB := alloc_below W1 (.cells #[.bool s, .int .i64 H.toInt, .int .i64 L.toInt] 44)
  have aL := alloc_lt W1 (.cells #[.bool s, .int .i64 H.toInt, .int .i64 L.toInt] 44)
  have aS : (W1.alloc (.cells #[.bool s, .int .i64 H.toInt, .int .i64 L.toInt] 44)).heap.size = W1.heap.size + 1 := by simp
  generalize W1.alloc (.cells #[.bool s, .int .i64 H.toInt, .int .i64 L.toInt] 44) = W2 at *
  rw [uS] at a0 a1 a2 aL aS
  have kF := frzZ W2 56
  obtain ⟨k0, k1, k2, k3, k4⟩ := boxZ W2 56
  have kB := alloc_below W2 (.cells #[.bool false, .int .i64 0, .int .i64 0, .int .i64 0, .string ⟨#[]⟩] 56)
  have kL := alloc_lt W2 (.cells #[.bool false, .int .i64 0, .int .i64 0, .int .i64 0, .string ⟨#[]⟩] 56)
  have kS : (W2.alloc (.cells #[.bool false, .int .i64 0, .int .i64 0, .int .i64 0, .string ⟨#[]⟩] 56)).heap.size = W2.heap.size + 1 := by simp
  generalize W2.alloc (.cells #[.bool false, .int .i64 0, .int .i64 0, .int .i64 0, .string ⟨#[]⟩] 56) = W3 at *
  rw [aS] at k0 k1 k2 k3 k4 kL kS
  rw [aS] at kF
  have U0 := (kB.cell (show w.heap.size < W2.heap.size by omega)).trans ((aB.cell uL).trans u0)
  have U1 := (kB.cell (show w.heap.size < W2.heap.size by omega)).trans ((aB.cell uL).trans u1)
  have A0 := (kB.cell (show w.heap.size + 1 < W2.heap.size by omega)).trans a0
  have A1 := (kB.cell (show w.heap.size + 1 < W2.heap.size by omega)).trans a1
  have A2 := (kB.cell (show w.heap.size + 1 < W2.heap.size by omega)).trans a2
  have B3 := hidP ((uB.trans (aB.mono uB.size)).trans (kB.mono (Nat.le_trans uB.size aB.size)))
  have hs3 : W3.heap.size = w.heap.size + 3 := by omega
  have HP3 := hidP (HBP.out.later B3.out)
  have HK3 := hidP (HBK.out.later B3.out)
  clear u0 u1 uB uL uS a0 a1 a2 aB aL aS kB kS
  refine (HPO.out _ B3.out).mono ?_
  rintro e w4 ⟨rfl, hb4⟩
  have U0a := (hb4.cell (show w.heap.size < W3.heap.size by omega)).trans U0
  have U1a := (hb4.cell (show w.heap.size < W3.heap.size by omega)).trans U1
  have A0a := (hb4.cell (show w.heap.size + 1 < W3.heap.size by omega)).trans A0
  have A1a := (hb4.cell (show w.heap.size + 1 < W3.heap.size by omega)).trans A1
  have A2a := (hb4.cell (show w.heap.size + 1 < W3.heap.size by omega)).trans A2
  have k0a := (hb4.cell (show w.heap.size + 1 + 1 < W3.heap.size by omega)).trans k0
  have k1a := (hb4.cell (show w.heap.size + 1 + 1 < W3.heap.size by omega)).trans k1
  have k2a := (hb4.cell (show w.heap.size + 1 + 1 < W3.heap.size by omega)).trans k2
  have k3a := (hb4.cell (show w.heap.size + 1 + 1 < W3.heap.size by omega)).trans k3
  have k4a := (hb4.cell (show w.heap.size + 1 + 1 < W3.heap.size by omega)).trans k4
  have kFa : ∀ o, w4.frozen? ⟨w.heap.size + 1 + 1, o, none⟩ = false := fun o => (hb4.frozen (show w.heap.size + 1 + 1 < W3.heap.size by omega)).trans (kF o)
  clear U0 U1 A0 A1 A2 k0 k1 k2 k3 k4 kF
  have hz4 : w.heap.size + 3 ≤ w4.heap.size := by have := hb4.size; omega
  have B4 := hidP (B3.out.trans (hb4.mono B3.out.size))
  have HK4 := hidP (HK3.out.later hb4)
  clear hb4
  cases r
  · have HF : Hid (bkR false s H L bs = (Bk.zero, false)) := hidP rfl
    go_wp2_with fail
    refine bodyPost_ret (v := .tuple #[.agg #[.bool false, .int .i64 0, .int .i64 0, .int .i64 0, .string ⟨#[]⟩], .bool false]) (by simp [results, Try.results26, go_sem, k0a, k1a, k2a, k3a, k4a]) rfl ⟨ret_bk (a := (Bk.zero, false)) HF.out.symm, ?_⟩
    repeat (with_reducible refine Below.setCell ?_ ?_ _; rotate_left; (focus (first | omega | (simp; omega))))
    exact B4.out
  · go_wp2_with fail
    go_loopw [7, 15] (fun _ t15 wr => ∃ k : Nat, k ≤ nb ∧ t15 = .int .i64 k ∧ bkR true s H L bs = bkF s H L (bs.drop k) ∧ Below w4.heap.size w4 wr) (fun _ t15 _ => nb - (intOf t15).toNat)
    case atStart => exact ⟨0, Nat.zero_le _, rfl, rfl, Below.refl _ _⟩
    case round =>
      obtain ⟨k, hk, rfl, hix, hbel⟩ := hrel
      have U0r := (hbel.cell (show w.heap.size < w4.heap.size by omega)).trans U0a
      have U1r := (hbel.cell (show w.heap.size < w4.heap.size by omega)).trans U1a
      have A0r := (hbel.cell (show w.heap.size + 1 < w4.heap.size by omega)).trans A0a
      have A1r := (hbel.cell (show w.heap.size + 1 < w4.heap.size by omega)).trans A1a
      have A2r := (hbel.cell (show w.heap.size + 1 < w4.heap.size by omega)).trans A2a
      have k0r := (hbel.cell (show w.heap.size + 1 + 1 < w4.heap.size by omega)).trans k0a
      have k1r := (hbel.cell (show w.heap.size + 1 + 1 < w4.heap.size by omega)).trans k1a
      have k2r := (hbel.cell (show w.heap.size + 1 + 1 < w4.heap.size by omega)).trans k2a
      have k3r := (hbel.cell (show w.heap.size + 1 + 1 < w4.heap.size by omega)).trans k3a
      have k4r := (hbel.cell (show w.heap.size + 1 + 1 < w4.heap.size by omega)).trans k4a
      have kFr : ∀ o, wr.frozen? ⟨w.heap.size + 1 + 1, o, none⟩ = false := fun o => (hbel.frozen (show w.heap.size + 1 + 1 < w4.heap.size by omega)).trans (kFa o)
      have hzr : w.heap.size + 3 ≤ wr.heap.size := by have := hbel.size; omega
      have hzU : w.heap.size < wr.heap.size := by omega
      have hzA : w.heap.size + 1 < wr.heap.size := by omega
      have hzK : w.heap.size + 1 + 1 < wr.heap.size := by omega
      have BR := hidP (B4.out.trans (hbel.mono B4.out.size))
      by_cases hlt : k < nb
      · obtain ⟨p, o, q, rfl, hp, hq, c0, c1, c2, c3, c4⟩ := rowBk HK4.out k (by rw [← HN.out]; exact hlt)
        have d0 := (hbel.cell hp).trans c0
        have d1 := (hbel.cell hp).trans c1
        have d2 := (hbel.cell hp).trans c2
        have d3 := (hbel.cell hp).trans c3
        have d4 := (hbel.cell hp).trans c4
        rw [bkF_at s H L bs k q hq] at hix
        have HX := hidP hix
        have HBel := hidP hbel
        have HH := hidP (iHasAddr_any q.p.s q.p.H q.p.L q.p.b s H L)
        clear c0 c1 c2 c3 c4 hq hix hbel
        clear U0a U1a A0a A1a A2a k0a k1a k2a k3a k4a kFa
        cases hh : hadB q.p.s q.p.H q.p.L q.p.b s H L
        · rw [hh] at HX HH
          go_wp2_with fail
          obtain ⟨x0, x1, x2, x3, x4⟩ := boxBk (q := q) wr 56
          have xB := alloc_below wr (.cells #[.bool q.p.s, .int .i64 q.p.H.toInt, .int .i64 q.p.L.toInt, .int .i64 q.p.b, .string q.t] 56)
          have xL := alloc_lt wr (.cells #[.bool q.p.s, .int .i64 q.p.H.toInt, .int .i64 q.p.L.toInt, .int .i64 q.p.b, .string q.t] 56)
          have xS : (wr.alloc (.cells #[.bool q.p.s, .int .i64 q.p.H.toInt, .int .i64 q.p.L.toInt, .int .i64 q.p.b, .string q.t] 56)).heap.size = wr.heap.size + 1 := by simp
          generalize wr.alloc (.cells #[.bool q.p.s, .int .i64 q.p.H.toInt, .int .i64 q.p.L.toInt, .int .i64 q.p.b, .string q.t] 56) = W5 at *
          have U0s := (xB.cell (show w.heap.size < wr.heap.size by omega)).trans U0r
          have U1s := (xB.cell (show w.heap.size < wr.heap.size by omega)).trans U1r
          have A0s := (xB.cell (show w.heap.size + 1 < wr.heap.size by omega)).trans A0r
          have A1s := (xB.cell (show w.heap.size + 1 < wr.heap.size by omega)).trans A1r
          have A2s := (xB.cell (show w.heap.size + 1 < wr.heap.size by omega)).trans A2r
          have k0s := (xB.cell (show w.heap.size + 1 + 1 < wr.heap.size by omega)).trans k0r
          have k1s := (xB.cell (show w.heap.size + 1 + 1 < wr.heap.size by omega)).trans k1r
          have k2s := (xB.cell (show w.heap.size + 1 + 1 < wr.heap.size by omega)).trans k2r
          have k3s := (xB.cell (show w.heap.size + 1 + 1 < wr.heap.size by omega)).trans k3r
          have k4s := (xB.cell (show w.heap.size + 1 + 1 < wr.heap.size by omega)).trans k4r
          have kFs : ∀ o, W5.frozen? ⟨w.heap.size + 1 + 1, o, none⟩ = false := fun o => (xB.frozen (show w.heap.size + 1 + 1 < wr.heap.size by omega)).trans (kFr o)
          clear U0r U1r A0r A1r A2r k0r k1r k2r k3r k4r kFr
          have hz5 : w.heap.size + 3 ≤ W5.heap.size := by have := xB.size; omega
          have B5 := hidP (BR.out.trans (xB.mono BR.out.size))
          have X5 := hidP xB
          clear xB
          refine (HH.out _).mono ?_
          rintro e w6 ⟨rfl, hb6⟩
          have U0t := (hb6.cell (show w.heap.size < W5.heap.size by omega)).trans U0s
          have U1t := (hb6.cell (show w.heap.size < W5.heap.size by omega)).trans U1s
          have A0t := (hb6.cell (show w.heap.size + 1 < W5.heap.size by omega)).trans A0s
          have A1t := (hb6.cell (show w.heap.size + 1 < W5.heap.size by omega)).trans A1s
          have A2t := (hb6.cell (show w.heap.size + 1 < W5.heap.size by omega)).trans A2s
          have k0t := (hb6.cell (show w.heap.size + 1 + 1 < W5.heap.size by omega)).trans k0s
          have k1t := (hb6.cell (show w.heap.size + 1 + 1 < W5.heap.size by omega)).trans k1s
          have k2t := (hb6.cell (show w.heap.size + 1 + 1 < W5.heap.size by omega)).trans k2s
          have k3t := (hb6.cell (show w.heap.size + 1 + 1 < W5.heap.size by omega)).trans k3s
          have k4t := (hb6.cell (show w.heap.size + 1 + 1 < W5.heap.size by omega)).trans k4s
          have kFt : ∀ o, w6.frozen? ⟨w.heap.size + 1 + 1, o, none⟩ = false := fun o => (hb6.frozen (show w.heap.size + 1 + 1 < W5.heap.size by omega)).trans (kFs o)
          clear U0s U1s A0s A1s A2s k0s k1s k2s k3s k4s kFs
          have y0 := (hb6.cell xL).trans x0
          have y1 := (hb6.cell xL).trans x1
          have y2 := (hb6.cell xL).trans x2
          have y3 := (hb6.cell xL).trans x3
          have y4 := (hb6.cell xL).trans x4
          have hz6 : w.heap.size + 3 ≤ w6.heap.size := by have := hb6.size; omega
          have B6 := hidP (B5.out.trans (hb6.mono B5.out.size))
          have X6 := hidP (X5.out.trans (hb6.mono X5.out.size))
          clear hb6 x0 x1 x2 x3 x4 xS d0 d1 d2 d3 d4
          go_wp2_with fail
          go_roundw
          case rel => exact ⟨k + 1, by omega, by go_num, by rw [HX.out]; simp, HBel.out.trans (X6.out.mono HBel.out.size)⟩
          case measure => simp [intOf]; omega
        · rw [hh] at HX HH
          have HF : Hid (bkR true s H L bs = (q, true)) := hidP (by rw [HX.out]; simp)
          go_wp2_with fail
          obtain ⟨x0, x1, x2, x3, x4⟩ := boxBk (q := q) wr 56
          have xB := alloc_below wr (.cells #[.bool q.p.s, .int .i64 q.p.H.toInt, .int .i64 q.p.L.toInt, .int .i64 q.p.b, .string q.t] 56)
          have xL := alloc_lt wr (.cells #[.bool q.p.s, .int .i64 q.p.H.toInt, .int .i64 q.p.L.toInt, .int .i64 q.p.b, .string q.t] 56)
          have xS : (wr.alloc (.cells #[.bool q.p.s, .int .i64 q.p.H.toInt, .int .i64 q.p.L.toInt, .int .i64 q.p.b, .string q.t] 56)).heap.size = wr.heap.size + 1 := by simp
          generalize wr.alloc (.cells #[.bool q.p.s, .int .i64 q.p.H.toInt, .int .i64 q.p.L.toInt, .int .i64 q.p.b, .string q.t] 56) = W5 at *
          have U0s := (xB.cell (show w.heap.size < wr.heap.size by omega)).trans U0r
          have U1s := (xB.cell (show w.heap.size < wr.heap.size by omega)).trans U1r
          have A0s := (xB.cell (show w.heap.size + 1 < wr.heap.size by omega)).trans A0r
          have A1s := (xB.cell (show w.heap.size + 1 < wr.heap.size by omega)).trans A1r
          have A2s := (xB.cell (show w.heap.size + 1 < wr.heap.size by omega)).trans A2r
          have k0s := (xB.cell (show w.heap.size + 1 + 1 < wr.heap.size by omega)).trans k0r
          have k1s := (xB.cell (show w.heap.size + 1 + 1 < wr.heap.size by omega)).trans k1r
          have k2s := (xB.cell (show w.heap.size + 1 + 1 < wr.heap.size by omega)).trans k2r
          have k3s := (xB.cell (show w.heap.size + 1 + 1 < wr.heap.size by omega)).trans k3r
          have k4s := (xB.cell (show w.heap.size + 1 + 1 < wr.heap.size by omega)).trans k4r
          have kFs : ∀ o, W5.frozen? ⟨w.heap.size + 1 + 1, o, none⟩ = false := fun o => (xB.frozen (show w.heap.size + 1 + 1 < wr.heap.size by omega)).trans (kFr o)
          clear U0r U1r A0r A1r A2r k0r k1r k2r k3r k4r kFr
          have hz5 : w.heap.size + 3 ≤ W5.heap.size := by have := xB.size; omega
          have B5 := hidP (BR.out.trans (xB.mono BR.out.size))
          have X5 := hidP xB
          clear xB
          refine (HH.out _).mono ?_
          rintro e w6 ⟨rfl, hb6⟩
          have U0t := (hb6.cell (show w.heap.size < W5.heap.size by omega)).trans U0s
          have U1t := (hb6.cell (show w.heap.size < W5.heap.size by omega)).trans U1s
          have A0t := (hb6.cell (show w.heap.size + 1 < W5.heap.size by omega)).trans A0s
          have A1t := (hb6.cell (show w.heap.size + 1 < W5.heap.size by omega)).trans A1s
          have A2t := (hb6.cell (show w.heap.size + 1 < W5.heap.size by omega)).trans A2s
          have k0t := (hb6.cell (show w.heap.size + 1 + 1 < W5.heap.size by omega)).trans k0s
          have k1t := (hb6.cell (show w.heap.size + 1 + 1 < W5.heap.size by omega)).trans k1s
          have k2t := (hb6.cell (show w.heap.size + 1 + 1 < W5.heap.size by omega)).trans k2s
          have k3t := (hb6.cell (show w.heap.size + 1 + 1 < W5.heap.size by omega)).trans k3s
          have k4t := (hb6.cell (show w.heap.size + 1 + 1 < W5.heap.size by omega)).trans k4s
          have kFt : ∀ o, w6.frozen? ⟨w.heap.size + 1 + 1, o, none⟩ = false := fun o => (hb6.frozen (show w.heap.size + 1 + 1 < W5.heap.size by omega)).trans (kFs o)
          clear U0s U1s A0s A1s A2s k0s k1s k2s k3s k4s kFs
          have y0 := (hb6.cell xL).trans x0
          have y1 := (hb6.cell xL).trans x1
          have y2 := (hb6.cell xL).trans x2
          have y3 := (hb6.cell xL).trans x3
          have y4 := (hb6.cell xL).trans x4
          have hz6 : w.heap.size + 3 ≤ w6.heap.size := by have := hb6.size; omega
          have B6 := hidP (B5.out.trans (hb6.mono B5.out.size))
          have X6 := hidP (X5.out.trans (hb6.mono X5.out.size))
          clear hb6 x0 x1 x2 x3 x4 xS d0 d1 d2 d3 d4
          go_wp2_with fail
          refine bodyPost_ret (v := .tuple #[.agg #[.bool q.p.s, .int .i64 q.p.H.toInt, .int .i64 q.p.L.toInt, .int .i64 q.p.b, .string q.t], .bool true]) (by simp [results, Try.results26, go_sem, k0t, k1t, k2t, k3t, k4t]) rfl ⟨ret_bk (a := (q, true)) HF.out.symm, ?_⟩
          repeat (with_reducible refine Below.setCell ?_ ?_ _; rotate_left; (focus (first | omega | (simp; omega))))
          exact B6.out
      · have HF : Hid (bkR true s H L bs = (Bk.zero, false)) := by
          rw [List.drop_of_length_le (by have := HN.out; omega)] at hix
          exact hidP hix
        clear hbel hix
        clear U0a U1a A0a A1a A2a k0a k1a k2a k3a k4a kFa
        go_wp2_with fail
        refine bodyPost_ret (v := .tuple #[.agg #[.bool false, .int .i64 0, .int .i64 0, .int .i64 0, .string ⟨#[]⟩], .bool false]) (by simp [results, Try.results26, go_sem, k0r, k1r, k2r, k3r, k4r]) rfl ⟨ret_bk (a := (Bk.zero, false)) HF.out.symm, ?_⟩
        repeat (with_reducible refine Below.setCell ?_ ?_ _; rotate_left; (focus (first | omega | (simp; omega))))
        exact BR.out

set_option maxRecDepth 10000 in
set_option maxHeartbeats 4000000 in
theorem sBlockOf_any (s : Bool) (H L : BitVec 64) (ap : Option Addr) (np cp : Nat) (ab : Option Addr) (nb cb : Nat) (ps : List Pl) (bs : List Bk) (w : World) (hnp : np = ps.length) (hnb : nb = bs.length) (hP : RowG KPl w ap ps) (hK : RowG KBk w ab bs) (hlp : np ≤ 9000000000) (hl : nb ≤ 9000000000) (hst : ∀ q ∈ bs, q.t.size ≤ 9223372036854775807) :
    Calls Try.prog 24 #[.agg #[.slice ap np cp, .slice ab nb cb], .agg #[.bool s, .int .i64 H.toInt, .int .i64 L.toInt]] w fun e w' => e = .returned (.tuple #[.agg #[.bool (bkR (planB ps bs) s H L bs).1.p.s, .int .i64 (bkR (planB ps bs) s H L bs).1.p.H.toInt, .int .i64 (bkR (planB ps bs) s H L bs).1.p.L.toInt, .int .i64 (bkR (planB ps bs) s H L bs).1.p.b, .string (bkR (planB ps bs) s H L bs).1.t], .bool (bkR (planB ps bs) s H L bs).2]) ∧ Below w.heap.size w w' := by
  have HPO := hidP (fun W h => sPlanOk_any ap np cp ab nb cb ps bs W hnp hnb (hP.later h) (hK.later h) hlp hl hst)
  have HBP := hidP hP
  have HBK := hidP hK
  have HN := hidP hnb
  clear hP hK hnp hnb hst
  generalize planB ps bs = r at *
  go_enter Try.func24, Try.ntmps24
  go_wp2_with fail
  obtain ⟨u0, u1⟩ := box2 (u := .slice ap np cp) (v := .slice ab nb cb) w 32
  have uB := alloc_below w (.cells #[.slice ap np cp, .slice ab nb cb] 32)
  have uL := alloc_lt w (.cells #[.slice ap np cp, .slice ab nb cb] 32)
  have uS : (w.alloc (.cells #[.slice ap np cp, .slice ab nb cb] 32)).heap.size = w.heap.size + 1 := by simp
  generalize w.alloc (.cells #[.slice ap np cp, .slice ab nb cb] 32) = W1 at *
  obtain ⟨a0, a1, a2⟩ := box3A (s := s) (H := H) (L := L) W1 44
  have aB := alloc_below W1 (.cells #[.bool s, .int .i64 H.toInt, .int .i64 L.toInt] 44)
  have aL := alloc_lt W1 (.cells #[.bool s, .int .i64 H.toInt, .int .i64 L.toInt] 44)
  have aS : (W1.alloc (.cells #[.bool s, .int .i64 H.toInt, .int .i64 L.toInt] 44)).heap.size = W1.heap.size + 1 := by simp
  generalize W1.alloc (.cells #[.bool s, .int .i64 H.toInt, .int .i64 L.toInt] 44) = W2 at *
  rw [uS] at a0 a1 a2 aL aS
  have kF := frzZ W2 56
  obtain ⟨k0, k1, k2, k3, k4⟩ := boxZ W2 56
  have kB := alloc_below W2 (.cells #[.bool false, .int .i64 0, .int .i64 0, .int .i64 0, .string ⟨#[]⟩] 56)
  have kL := alloc_lt W2 (.cells #[.bool false, .int .i64 0, .int .i64 0, .int .i64 0, .string ⟨#[]⟩] 56)
  have kS : (W2.alloc (.cells #[.bool false, .int .i64 0, .int .i64 0, .int .i64 0, .string ⟨#[]⟩] 56)).heap.size = W2.heap.size + 1 := by simp
  generalize W2.alloc (.cells #[.bool false, .int .i64 0, .int .i64 0, .int .i64 0, .string ⟨#[]⟩] 56) = W3 at *
  rw [aS] at k0 k1 k2 k3 k4 kL kS
  rw [aS] at kF
  have U0 := (kB.cell (show w.heap.size < W2.heap.size by omega)).trans ((aB.cell uL).trans u0)
  have U1 := (kB.cell (show w.heap.size < W2.heap.size by omega)).trans ((aB.cell uL).trans u1)
  have A0 := (kB.cell (show w.heap.size + 1 < W2.heap.size by omega)).trans a0
  have A1 := (kB.cell (show w.heap.size + 1 < W2.heap.size by omega)).trans a1
  have A2 := (kB.cell (show w.heap.size + 1 < W2.heap.size by omega)).trans a2
  have B3 := hidP ((uB.trans (aB.mono uB.size)).trans (kB.mono (Nat.le_trans uB.size aB.size)))
  have hs3 : W3.heap.size = w.heap.size + 3 := by omega
  have HP3 := hidP (HBP.out.later B3.out)
  have HK3 := hidP (HBK.out.later B3.out)
  clear u0 u1 uB uL uS a0 a1 a2 aB aL aS kB kS
  go_loopw [6] (fun t6 wr => ∃ k : Nat, k ≤ nb ∧ t6 = .int .i64 k ∧ bkR r s H L bs = bkR r s H L (bs.drop k) ∧ Below W3.heap.size W3 wr) (fun t6 _ => nb - (intOf t6).toNat)
  case atStart => exact ⟨0, Nat.zero_le _, rfl, rfl, Below.refl _ _⟩
  case round =>
    obtain ⟨k, hk, rfl, hix, hbel⟩ := hrel
    have U0r := (hbel.cell (show w.heap.size < W3.heap.size by omega)).trans U0
    have U1r := (hbel.cell (show w.heap.size < W3.heap.size by omega)).trans U1
    have A0r := (hbel.cell (show w.heap.size + 1 < W3.heap.size by omega)).trans A0
    have A1r := (hbel.cell (show w.heap.size + 1 < W3.heap.size by omega)).trans A1
    have A2r := (hbel.cell (show w.heap.size + 1 < W3.heap.size by omega)).trans A2
    have k0r := (hbel.cell (show w.heap.size + 1 + 1 < W3.heap.size by omega)).trans k0
    have k1r := (hbel.cell (show w.heap.size + 1 + 1 < W3.heap.size by omega)).trans k1
    have k2r := (hbel.cell (show w.heap.size + 1 + 1 < W3.heap.size by omega)).trans k2
    have k3r := (hbel.cell (show w.heap.size + 1 + 1 < W3.heap.size by omega)).trans k3
    have k4r := (hbel.cell (show w.heap.size + 1 + 1 < W3.heap.size by omega)).trans k4
    have kFr : ∀ o, wr.frozen? ⟨w.heap.size + 1 + 1, o, none⟩ = false := fun o => (hbel.frozen (show w.heap.size + 1 + 1 < W3.heap.size by omega)).trans (kF o)
    have hzr : w.heap.size + 3 ≤ wr.heap.size := by have := hbel.size; omega
    have BR := hidP (B3.out.trans (hbel.mono B3.out.size))
    have HBel := hidP hbel
    clear U0 U1 A0 A1 A2 k0 k1 k2 k3 k4 kF
    by_cases hlt : k < nb
    · have gk : decide ((k : Int) < (nb : Int)) = true := decide_eq_true (by omega)
      go_wp2_with fail
      refine (HPO.out _ BR.out).mono ?_
      rintro e w4 ⟨rfl, hb4⟩
      have U0a := (hb4.cell (show w.heap.size < wr.heap.size by omega)).trans U0r
      have U1a := (hb4.cell (show w.heap.size < wr.heap.size by omega)).trans U1r
      have A0a := (hb4.cell (show w.heap.size + 1 < wr.heap.size by omega)).trans A0r
      have A1a := (hb4.cell (show w.heap.size + 1 < wr.heap.size by omega)).trans A1r
      have A2a := (hb4.cell (show w.heap.size + 1 < wr.heap.size by omega)).trans A2r
      have k0a := (hb4.cell (show w.heap.size + 1 + 1 < wr.heap.size by omega)).trans k0r
      have k1a := (hb4.cell (show w.heap.size + 1 + 1 < wr.heap.size by omega)).trans k1r
      have k2a := (hb4.cell (show w.heap.size + 1 + 1 < wr.heap.size by omega)).trans k2r
      have k3a := (hb4.cell (show w.heap.size + 1 + 1 < wr.heap.size by omega)).trans k3r
      have k4a := (hb4.cell (show w.heap.size + 1 + 1 < wr.heap.size by omega)).trans k4r
      have kFa : ∀ o, w4.frozen? ⟨w.heap.size + 1 + 1, o, none⟩ = false := fun o => (hb4.frozen (show w.heap.size + 1 + 1 < wr.heap.size by omega)).trans (kFr o)
      clear U0r U1r A0r A1r A2r k0r k1r k2r k3r k4r kFr
      have hz4 : w.heap.size + 3 ≤ w4.heap.size := by have := hb4.size; omega
      have B4 := hidP (BR.out.trans (hb4.mono BR.out.size))
      have X4 := hidP (HBel.out.trans (hb4.mono HBel.out.size))
      clear hb4
      cases r
      · have HF : Hid (bkR false s H L bs = (Bk.zero, false)) := hidP rfl
        clear hix hbel
        go_wp2_with fail
        refine bodyPost_ret (v := .tuple #[.agg #[.bool false, .int .i64 0, .int .i64 0, .int .i64 0, .string ⟨#[]⟩], .bool false]) (by simp [results, Try.results24, go_sem, k0a, k1a, k2a, k3a, k4a]) rfl ⟨ret_bk (a := (Bk.zero, false)) HF.out.symm, ?_⟩
        repeat (with_reducible refine Below.setCell ?_ ?_ _; rotate_left; (focus (first | omega | (simp; omega))))
        exact B4.out
      · obtain ⟨p, o, q, rfl, hp, hq, c0, c1, c2, c3, c4⟩ := rowBk HK3.out k (by rw [← HN.out]; exact hlt)
        have d0 := (X4.out.cell hp).trans c0
        have d1 := (X4.out.cell hp).trans c1
        have d2 := (X4.out.cell hp).trans c2
        have d3 := (X4.out.cell hp).trans c3
        have d4 := (X4.out.cell hp).trans c4
        have dL : p < w4.heap.size := Nat.lt_of_lt_of_le hp X4.out.size
        have hix' : bkR true s H L bs = bkF s H L (bs.drop k) := hix
        rw [bkF_at s H L bs k q hq] at hix'
        have HX := hidP hix'
        have HH := hidP (sHasAddr_any q.p.s q.p.H q.p.L q.p.b s H L)
        have uL : w.heap.size < w4.heap.size := by omega
        have aL : w.heap.size + 1 < w4.heap.size := by omega
        clear c0 c1 c2 c3 c4 hq hix hix' hbel
        cases hh : hadB q.p.s q.p.H q.p.L q.p.b s H L
        · rw [hh] at HX HH
          go_wp2_with fail
          have HSx : Hid (∀ x, Below w4.heap.size w4 x → (x.cell? ⟨p, o + k * 5, none⟩ = some (.bool q.p.s) ∧ x.cell? ⟨p, o + k * 5 + 1, none⟩ = some (.int .i64 q.p.H.toInt) ∧ x.cell? ⟨p, o + k * 5 + 2, none⟩ = some (.int .i64 q.p.L.toInt) ∧ x.cell? ⟨p, o + k * 5 + 3, none⟩ = some (.int .i64 q.p.b) ∧ x.cell? ⟨p, o + k * 5 + 4, none⟩ = some (.string q.t) ∧ x.cell? ⟨w.heap.size, 1, none⟩ = some (.slice (some ⟨p, o, none⟩) nb cb) ∧ x.cell? ⟨w.heap.size + 1, 0, none⟩ = some (.bool s) ∧ x.cell? ⟨w.heap.size + 1, 1, none⟩ = some (.int .i64 H.toInt) ∧ x.cell? ⟨w.heap.size + 1, 2, none⟩ = some (.int .i64 L.toInt) ∧ Below w4.heap.size w4 x)) := hidP fun x h =>
            ⟨(h.cell dL).trans d0, (h.cell dL).trans d1, (h.cell dL).trans d2, (h.cell dL).trans d3, (h.cell dL).trans d4, (h.cell uL).trans U1a, (h.cell aL).trans A0a, (h.cell aL).trans A1a, (h.cell aL).trans A2a, h⟩
          refine wp_region_held_drew (S := (fun x => x.cell? ⟨p, o + k * 5, none⟩ = some (.bool q.p.s) ∧ x.cell? ⟨p, o + k * 5 + 1, none⟩ = some (.int .i64 q.p.H.toInt) ∧ x.cell? ⟨p, o + k * 5 + 2, none⟩ = some (.int .i64 q.p.L.toInt) ∧ x.cell? ⟨p, o + k * 5 + 3, none⟩ = some (.int .i64 q.p.b) ∧ x.cell? ⟨p, o + k * 5 + 4, none⟩ = some (.string q.t) ∧ x.cell? ⟨w.heap.size, 1, none⟩ = some (.slice (some ⟨p, o, none⟩) nb cb) ∧ x.cell? ⟨w.heap.size + 1, 0, none⟩ = some (.bool s) ∧ x.cell? ⟨w.heap.size + 1, 1, none⟩ = some (.int .i64 H.toInt) ∧ x.cell? ⟨w.heap.size + 1, 2, none⟩ = some (.int .i64 L.toInt) ∧ Below w4.heap.size w4 x)) (by kernel_rfl) ?_ (fun hHeld => ?_)
          · try dsimp only
            exact HSx.out _ (Below.refl _ _).drew
          refine wpAnyH_take (i := 0) (oi := ⟨some 18, _, _, _, _, _⟩) (v := ?_) rfl (by kernel_rfl) (by kernel_rfl) (by kernel_rfl) (fun _ _ _ h => h) (Or.inl ⟨by rfl, ?_⟩) (by assumption) ?_
          rotate_left
          · intro w hSw
            try dsimp only at hSw
            go_simp
            try with_reducible rfl
          simp only [Act.put, List.setIfInBounds_toArray, List.set_cons_zero, List.set_cons_succ]
          refine wpAnyH_take (i := 1) (oi := ⟨some 19, _, _, _, _, _⟩) (v := ?_) rfl (by kernel_rfl) (by kernel_rfl) (by kernel_rfl) (fun _ _ _ h => h) (Or.inl ⟨by rfl, ?_⟩) (by assumption) ?_
          rotate_left
          · intro w hSw
            try dsimp only at hSw
            go_simp
            try with_reducible rfl
          simp only [Act.put, List.setIfInBounds_toArray, List.set_cons_zero, List.set_cons_succ]
          refine wpAnyH_take (i := 2) (oi := ⟨some 20, _, _, _, _, _⟩) (v := ?_) rfl (by kernel_rfl) (by kernel_rfl) (by kernel_rfl) (fun _ _ _ h => h) (Or.inl ⟨by rfl, ?_⟩) (by assumption) ?_
          rotate_left
          · intro w hSw
            try dsimp only at hSw
            go_simp
            try with_reducible rfl
          simp only [Act.put, List.setIfInBounds_toArray, List.set_cons_zero, List.set_cons_succ]
          refine wpAnyH_take (i := 3) (oi := ⟨some 21, _, _, _, _, _⟩) (v := ?_) rfl (by kernel_rfl) (by kernel_rfl) (by kernel_rfl) (fun _ _ _ h => h) (Or.inl ⟨by rfl, ?_⟩) (by assumption) ?_
          rotate_left
          · intro w hSw
            try dsimp only at hSw
            go_simp
            try with_reducible rfl
          simp only [Act.put, List.setIfInBounds_toArray, List.set_cons_zero, List.set_cons_succ]
          refine wpAnyH_take (i := 4) (oi := ⟨some 22, _, _, _, _, _⟩) (v := ?_) rfl (by kernel_rfl) (by kernel_rfl) (by kernel_rfl) (fun _ _ _ h => h) (Or.inl ⟨by rfl, ?_⟩) (by assumption) ?_
          rotate_left
          · intro w hSw
            try dsimp only at hSw
            go_simp
            try with_reducible rfl
          simp only [Act.put, List.setIfInBounds_toArray, List.set_cons_zero, List.set_cons_succ]
          refine wpAnyH_take (i := 5) (oi := ⟨some 23, _, _, _, _, _⟩) (v := ?_) rfl (by kernel_rfl) (by kernel_rfl) (by kernel_rfl) (fun _ _ _ h => h) (Or.inl ⟨by rfl, ?_⟩) (by assumption) ?_
          rotate_left
          · intro w hSw
            try dsimp only at hSw
            go_simp
            try with_reducible rfl
          simp only [Act.put, List.setIfInBounds_toArray, List.set_cons_zero, List.set_cons_succ]
          refine wpAnyH_take (i := 6) (oi := ⟨some 24, _, _, _, _, _⟩) (v := ?_) rfl (by kernel_rfl) (by kernel_rfl) (by kernel_rfl) (fun _ _ _ h => h) (Or.inl ⟨by rfl, ?_⟩) (by assumption) ?_
          rotate_left
          · intro w hSw
            try dsimp only at hSw
            go_simp
            try with_reducible rfl
          simp only [Act.put, List.setIfInBounds_toArray, List.set_cons_zero, List.set_cons_succ]
          refine wpAnyH_ready (rs := [7]) (by kernel_rfl) (by simp) ?_
          refine AllReadyH.cons rfl (fun K hK => ?_) AllReadyH.nil
          go_simp
          go_wp2_with (first | (go_at_call 66; refine (HH.out _).mono ?_; rintro e w6 ⟨rfl, hb6⟩; have b6 := (hHeld.2.2.2.2.2.2.2.2.2).trans (hb6.mono (hHeld.2.2.2.2.2.2.2.2.2).size)))
          refine hK.out _ _ ?_ (fun hHeld => ?_)
          · try dsimp only
            exact HSx.out _ b6
          clear hK K
          have HE := hidP (hHeld.2.2.2.2.2.2.2.2.2)
          refine wpAnyH_done (by kernel_rfl) ?_ _
          clear hHeld
          go_wp2_with fail
          go_roundw
          case rel => exact ⟨k + 1, by omega, by go_num, by rw [HX.out]; simp [bkR], X4.out.trans (HE.out.mono X4.out.size)⟩
          case measure => simp [intOf]; omega
        · rw [hh] at HX HH
          have HF : Hid (bkR true s H L bs = (q, true)) := hidP (by rw [HX.out]; simp)
          go_wp2_with fail
          have HSx : Hid (∀ x, Below w4.heap.size w4 x → (x.cell? ⟨p, o + k * 5, none⟩ = some (.bool q.p.s) ∧ x.cell? ⟨p, o + k * 5 + 1, none⟩ = some (.int .i64 q.p.H.toInt) ∧ x.cell? ⟨p, o + k * 5 + 2, none⟩ = some (.int .i64 q.p.L.toInt) ∧ x.cell? ⟨p, o + k * 5 + 3, none⟩ = some (.int .i64 q.p.b) ∧ x.cell? ⟨p, o + k * 5 + 4, none⟩ = some (.string q.t) ∧ x.cell? ⟨w.heap.size, 1, none⟩ = some (.slice (some ⟨p, o, none⟩) nb cb) ∧ x.cell? ⟨w.heap.size + 1, 0, none⟩ = some (.bool s) ∧ x.cell? ⟨w.heap.size + 1, 1, none⟩ = some (.int .i64 H.toInt) ∧ x.cell? ⟨w.heap.size + 1, 2, none⟩ = some (.int .i64 L.toInt) ∧ Below w4.heap.size w4 x)) := hidP fun x h =>
            ⟨(h.cell dL).trans d0, (h.cell dL).trans d1, (h.cell dL).trans d2, (h.cell dL).trans d3, (h.cell dL).trans d4, (h.cell uL).trans U1a, (h.cell aL).trans A0a, (h.cell aL).trans A1a, (h.cell aL).trans A2a, h⟩
          refine wp_region_held_drew (S := (fun x => x.cell? ⟨p, o + k * 5, none⟩ = some (.bool q.p.s) ∧ x.cell? ⟨p, o + k * 5 + 1, none⟩ = some (.int .i64 q.p.H.toInt) ∧ x.cell? ⟨p, o + k * 5 + 2, none⟩ = some (.int .i64 q.p.L.toInt) ∧ x.cell? ⟨p, o + k * 5 + 3, none⟩ = some (.int .i64 q.p.b) ∧ x.cell? ⟨p, o + k * 5 + 4, none⟩ = some (.string q.t) ∧ x.cell? ⟨w.heap.size, 1, none⟩ = some (.slice (some ⟨p, o, none⟩) nb cb) ∧ x.cell? ⟨w.heap.size + 1, 0, none⟩ = some (.bool s) ∧ x.cell? ⟨w.heap.size + 1, 1, none⟩ = some (.int .i64 H.toInt) ∧ x.cell? ⟨w.heap.size + 1, 2, none⟩ = some (.int .i64 L.toInt) ∧ Below w4.heap.size w4 x)) (by kernel_rfl) ?_ (fun hHeld => ?_)
          · try dsimp only
            exact HSx.out _ (Below.refl _ _).drew
          refine wpAnyH_take (i := 0) (oi := ⟨some 18, _, _, _, _, _⟩) (v := ?_) rfl (by kernel_rfl) (by kernel_rfl) (by kernel_rfl) (fun _ _ _ h => h) (Or.inl ⟨by rfl, ?_⟩) (by assumption) ?_
          rotate_left
          · intro w hSw
            try dsimp only at hSw
            go_simp
            try with_reducible rfl
          simp only [Act.put, List.setIfInBounds_toArray, List.set_cons_zero, List.set_cons_succ]
          refine wpAnyH_take (i := 1) (oi := ⟨some 19, _, _, _, _, _⟩) (v := ?_) rfl (by kernel_rfl) (by kernel_rfl) (by kernel_rfl) (fun _ _ _ h => h) (Or.inl ⟨by rfl, ?_⟩) (by assumption) ?_
          rotate_left
          · intro w hSw
            try dsimp only at hSw
            go_simp
            try with_reducible rfl
          simp only [Act.put, List.setIfInBounds_toArray, List.set_cons_zero, List.set_cons_succ]
          refine wpAnyH_take (i := 2) (oi := ⟨some 20, _, _, _, _, _⟩) (v := ?_) rfl (by kernel_rfl) (by kernel_rfl) (by kernel_rfl) (fun _ _ _ h => h) (Or.inl ⟨by rfl, ?_⟩) (by assumption) ?_
          rotate_left
          · intro w hSw
            try dsimp only at hSw
            go_simp
            try with_reducible rfl
          simp only [Act.put, List.setIfInBounds_toArray, List.set_cons_zero, List.set_cons_succ]
          refine wpAnyH_take (i := 3) (oi := ⟨some 21, _, _, _, _, _⟩) (v := ?_) rfl (by kernel_rfl) (by kernel_rfl) (by kernel_rfl) (fun _ _ _ h => h) (Or.inl ⟨by rfl, ?_⟩) (by assumption) ?_
          rotate_left
          · intro w hSw
            try dsimp only at hSw
            go_simp
            try with_reducible rfl
          simp only [Act.put, List.setIfInBounds_toArray, List.set_cons_zero, List.set_cons_succ]
          refine wpAnyH_take (i := 4) (oi := ⟨some 22, _, _, _, _, _⟩) (v := ?_) rfl (by kernel_rfl) (by kernel_rfl) (by kernel_rfl) (fun _ _ _ h => h) (Or.inl ⟨by rfl, ?_⟩) (by assumption) ?_
          rotate_left
          · intro w hSw
            try dsimp only at hSw
            go_simp
            try with_reducible rfl
          simp only [Act.put, List.setIfInBounds_toArray, List.set_cons_zero, List.set_cons_succ]
          refine wpAnyH_take (i := 5) (oi := ⟨some 23, _, _, _, _, _⟩) (v := ?_) rfl (by kernel_rfl) (by kernel_rfl) (by kernel_rfl) (fun _ _ _ h => h) (Or.inl ⟨by rfl, ?_⟩) (by assumption) ?_
          rotate_left
          · intro w hSw
            try dsimp only at hSw
            go_simp
            try with_reducible rfl
          simp only [Act.put, List.setIfInBounds_toArray, List.set_cons_zero, List.set_cons_succ]
          refine wpAnyH_take (i := 6) (oi := ⟨some 24, _, _, _, _, _⟩) (v := ?_) rfl (by kernel_rfl) (by kernel_rfl) (by kernel_rfl) (fun _ _ _ h => h) (Or.inl ⟨by rfl, ?_⟩) (by assumption) ?_
          rotate_left
          · intro w hSw
            try dsimp only at hSw
            go_simp
            try with_reducible rfl
          simp only [Act.put, List.setIfInBounds_toArray, List.set_cons_zero, List.set_cons_succ]
          refine wpAnyH_ready (rs := [7]) (by kernel_rfl) (by simp) ?_
          refine AllReadyH.cons rfl (fun K hK => ?_) AllReadyH.nil
          go_simp
          go_wp2_with (first | (go_at_call 66; refine (HH.out _).mono ?_; rintro e w6 ⟨rfl, hb6⟩; have b6 := (hHeld.2.2.2.2.2.2.2.2.2).trans (hb6.mono (hHeld.2.2.2.2.2.2.2.2.2).size)))
          refine hK.out _ _ ?_ (fun hHeld => ?_)
          · try dsimp only
            exact HSx.out _ b6
          clear hK K
          have HE := hidP (hHeld.2.2.2.2.2.2.2.2.2)
          refine wpAnyH_done (by kernel_rfl) ?_ _
          clear hHeld
          have hb6 := HE.out
          have hz6 : w.heap.size + 3 ≤ w6.heap.size := by have := hb6.size; omega
          have U0t := (hb6.cell (show w.heap.size < w4.heap.size by omega)).trans U0a
          have U1t := (hb6.cell (show w.heap.size < w4.heap.size by omega)).trans U1a
          have A0t := (hb6.cell (show w.heap.size + 1 < w4.heap.size by omega)).trans A0a
          have A1t := (hb6.cell (show w.heap.size + 1 < w4.heap.size by omega)).trans A1a
          have A2t := (hb6.cell (show w.heap.size + 1 < w4.heap.size by omega)).trans A2a
          have k0t := (hb6.cell (show w.heap.size + 1 + 1 < w4.heap.size by omega)).trans k0a
          have k1t := (hb6.cell (show w.heap.size + 1 + 1 < w4.heap.size by omega)).trans k1a
          have k2t := (hb6.cell (show w.heap.size + 1 + 1 < w4.heap.size by omega)).trans k2a
          have k3t := (hb6.cell (show w.heap.size + 1 + 1 < w4.heap.size by omega)).trans k3a
          have k4t := (hb6.cell (show w.heap.size + 1 + 1 < w4.heap.size by omega)).trans k4a
          have kFt : ∀ o, w6.frozen? ⟨w.heap.size + 1 + 1, o, none⟩ = false := fun o => (hb6.frozen (show w.heap.size + 1 + 1 < w4.heap.size by omega)).trans (kFa o)
          clear U0a U1a A0a A1a A2a k0a k1a k2a k3a k4a kFa
          have e0 := (hb6.cell dL).trans d0
          have e1 := (hb6.cell dL).trans d1
          have e2 := (hb6.cell dL).trans d2
          have e3 := (hb6.cell dL).trans d3
          have e4 := (hb6.cell dL).trans d4
          have B6 := hidP (B4.out.trans (hb6.mono B4.out.size))
          clear hb6 d0 d1 d2 d3 d4
          go_wp2_with fail
          refine bodyPost_ret (v := .tuple #[.agg #[.bool q.p.s, .int .i64 q.p.H.toInt, .int .i64 q.p.L.toInt, .int .i64 q.p.b, .string q.t], .bool true]) (by simp [results, Try.results24, go_sem, k0t, k1t, k2t, k3t, k4t]) rfl ⟨ret_bk (a := (q, true)) HF.out.symm, ?_⟩
          repeat (with_reducible refine Below.setCell ?_ ?_ _; rotate_left; (focus (first | omega | (simp; omega))))
          exact B6.out
    · have gk : decide ((k : Int) < (nb : Int)) = false := decide_eq_false (by omega)
      have HF : Hid (bkR r s H L bs = (Bk.zero, false)) := by
        rw [List.drop_of_length_le (by have := HN.out; omega)] at hix
        refine hidP (hix.trans ?_)
        unfold bkR; split <;> rfl
      clear hbel hix
      go_wp2_with fail
      refine bodyPost_ret (v := .tuple #[.agg #[.bool false, .int .i64 0, .int .i64 0, .int .i64 0, .string ⟨#[]⟩], .bool false]) (by simp [results, Try.results24, go_sem, k0r, k1r, k2r, k3r, k4r]) rfl ⟨ret_bk (a := (Bk.zero, false)) HF.out.symm, ?_⟩
      repeat (with_reducible refine Below.setCell ?_ ?_ _; rotate_left; (focus (first | omega | (simp; omega))))
      exact BR.out

end Go.Proofs.Ythbpehpnikknlaa
