/-
  Rows of addresses, three cells each: the laws' looks at them.
-/
import Derived.Test.YtgackacnlnagmaaVBookS
import Derived.Deep.RegionWith
import Derived.Deep.RegionHeld3
namespace Go.Proofs.Ytgackacnlnagmaa
open Go.RowKit

def Ad.cs (q : Ad) : List Value := [.bool q.s, .int .i64 q.H.toInt, .int .i64 q.L.toInt]
def KAd : Kd Ad := ⟨3, Ad.cs, fun _ => rfl, fun x u h => by
  simp [Ad.cs] at h
  rcases h with rfl | rfl | rfl <;> rfl⟩
theorem Try.tyAd : GTy KAd (.agg #[.bool false, .int .i64 0, .int .i64 0]) 24 Try.prog 33 43 := ⟨Try.underlying33, by kernel_rfl, rfl, by omega⟩
theorem rowAd {w : World} {a : Option Addr} {ps : List Ad} (h : RowG KAd w a ps) (j : Nat) (hj : j < ps.length) : ∃ p o q, a = some ⟨p, o, none⟩ ∧ p < w.heap.size ∧ ps[j]? = some q ∧
    w.cell? ⟨p, o + j * 3, none⟩ = some (.bool q.s) ∧ w.cell? ⟨p, o + j * 3 + 1, none⟩ = some (.int .i64 q.H.toInt) ∧ w.cell? ⟨p, o + j * 3 + 2, none⟩ = some (.int .i64 q.L.toInt) := by
  obtain ⟨p, o, q, ha, hp, hq, c⟩ := h j hj
  exact ⟨p, o, q, ha, hp, hq, c 0 _ rfl, c 1 _ rfl, c 2 _ rfl⟩
theorem rowAd0 {w : World} {g n cap B : Nat} {t : TypeId} {ps : List Ad} (h : OwnG KAd t w B (.slice (some ⟨g, 0, none⟩) n cap) ps) (j : Nat) (hj : j < ps.length) : ∃ q, g < w.heap.size ∧ ps[j]? = some q ∧
    w.cell? ⟨g, j * 3, none⟩ = some (.bool q.s) ∧ w.cell? ⟨g, j * 3 + 1, none⟩ = some (.int .i64 q.H.toInt) ∧ w.cell? ⟨g, j * 3 + 2, none⟩ = some (.int .i64 q.L.toInt) := by
  obtain ⟨p, o, q, ha, hp, hq, c0, c1, c2⟩ := rowAd h.row j hj
  simp only [Option.some.injEq, Addr.mk.injEq, and_true] at ha
  obtain ⟨rfl, rfl⟩ := ha
  rw [Nat.zero_add] at c0 c1 c2
  exact ⟨q, hp, hq, c0, c1, c2⟩
theorem putAd {t : TypeId} {w : World} {B g n cap : Nat} {ps : List Ad} (h : OwnG KAd t w B (.slice (some ⟨g, 0, none⟩) n cap) ps) (hn : n = ps.length) (j : Nat) (hj : j < n) (q : Ad) :
    OwnG KAd t (((w.setCell ⟨g, j * 3, none⟩ (.bool q.s)).setCell ⟨g, j * 3 + 1, none⟩ (.int .i64 q.H.toInt)).setCell ⟨g, j * 3 + 2, none⟩ (.int .i64 q.L.toInt)) B (.slice (some ⟨g, 0, none⟩) n cap) (ps.set j q) := h.put hn j hj q
theorem frzAd {t : TypeId} {w : World} {B g n cap : Nat} {ps : List Ad} (h : OwnG KAd t w B (.slice (some ⟨g, 0, none⟩) n cap) ps) (j : Nat) :
    w.frozen? ⟨g, j * 3, none⟩ = false ∧ w.frozen? ⟨g, j * 3 + 1, none⟩ = false ∧ w.frozen? ⟨g, j * 3 + 2, none⟩ = false := ⟨h.frozen _, h.frozen _, h.frozen _⟩

set_option maxHeartbeats 1000000 in
theorem eqAddrS_same (a b : Option Addr) (n c d : Nat) (ps : List Ad) (w : World) (hn : n = ps.length) (ha : RowG KAd w a ps) (hb : RowG KAd w b ps) (hl : n ≤ 9000000000) :
    Calls Try.prog 12 #[.slice a n c, .slice b n d] w fun e w' => e = .returned (.bool true) ∧ Below w.heap.size w w' := by
  have HA := hidP ha
  have HB := hidP hb
  have HN := hidP hn
  clear ha hb hn
  go_enter Try.func12, Try.ntmps12
  go_wp2
  go_loopw [5] (fun t5 wr => ∃ k : Nat, k ≤ n ∧ t5 = .int .i64 k ∧ Below w.heap.size w wr) (fun t5 _ => n - (intOf t5).toNat)
  case atStart => exact ⟨0, Nat.zero_le _, rfl, Below.refl _ _⟩
  case round =>
    obtain ⟨k, hk, rfl, hbel⟩ := hrel
    have HW := hidP hbel
    by_cases hlt : k < n
    · obtain ⟨p, o, q, rfl, hp, hq, c0, c1, c2⟩ := rowAd HA.out k (by rw [← HN.out]; exact hlt)
      obtain ⟨p', o', q', rfl, hp', hq', d0, d1, d2⟩ := rowAd HB.out k (by rw [← HN.out]; exact hlt)
      rw [hq] at hq'
      cases hq'
      have c0' := (hbel.cell hp).trans c0
      have c1' := (hbel.cell hp).trans c1
      have c2' := (hbel.cell hp).trans c2
      have d0' := (hbel.cell hp').trans d0
      have d1' := (hbel.cell hp').trans d1
      have d2' := (hbel.cell hp').trans d2
      clear c0 c1 c2 d0 d1 d2 hq hbel
      go_wp2_with fail
      go_region_with (first | (go_at_call 28; refine (eqA_same q.s q.H.toInt q.L.toInt _).mono ?_; rintro e w2 ⟨rfl, hb2⟩))
      all_goals
        have HW2 := hidP (HW.out.drew.trans (hb2.mono HW.out.drew.size))
        clear hb2
        go_wp2
        go_roundw
        case rel => exact ⟨k + 1, by omega, by go_num, HW2.out⟩
        case measure => simp [intOf]; omega
    · have hkn : k = n := by omega
      subst hkn
      clear hbel
      go_wp2
      go_ret
      exact ⟨rfl, HW.out⟩

end Go.Proofs.Ytgackacnlnagmaa
