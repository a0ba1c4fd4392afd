/-
  The specification's reading of eight groups: the walk.
-/
import Derived.Test.YtofnnpjadehgmaaDoorDSix
namespace Go.Proofs.YtofnnpjadehgmaaDoor
open Go.RowKit

theorem wrapE (x : Int) : IntKind.i64.wrap x = wrap64 x := by rw [IntKind.wrap_i64, wrap64]
theorem sxG_bd (gs : List Int) (gap : Int) (h : ∀ z ∈ gs, 0 ≤ z ∧ z ≤ 65535) (j : Nat) : 0 ≤ sxG gs gap j ∧ sxG gs gap j < 65536 := by
  have key : ∀ i : Nat, 0 ≤ gs.getD i 0 ∧ gs.getD i 0 < 65536 := fun i => by
    rw [List.getD_eq_getElem?_getD]
    cases e : gs[i]? with
    | none => simp
    | some z => have := h z (List.mem_of_getElem? e); simp; omega
  unfold sxG
  split
  · exact key _
  · split
    · exact key _
    · split
      · exact key _
      · omega
theorem plk_lt (m : Nat) (gap : Int) (k : Nat) (hm : m ≤ 8) (hk : k < m) : plk m gap k < 8 := by unfold plk; split <;> omega
theorem plk_at (gs : List Int) (gap : Int) (k : Nat) (q : Int) (hm : gs.length ≤ 8) (hq : gs[k]? = some q) : sxG gs gap (plk gs.length gap k) = q := by
  have hk : k < gs.length := by
    rcases Nat.lt_or_ge k gs.length with h | h
    · exact h
    · rw [List.getElem?_eq_none h] at hq; cases hq
  have hg : gs.getD k 0 = q := by rw [List.getD_eq_getElem?_getD, hq]; rfl
  unfold sxG plk
  by_cases h : gap < 0 ∨ (k : Int) < gap
  · rw [if_pos h]
    rcases h with h | h
    · rw [if_pos h]; exact hg
    · by_cases h' : gap < 0
      · rw [if_pos h']; exact hg
      · rw [if_neg h', if_pos h]; exact hg
  · rw [if_neg h, if_neg (by omega), if_neg (by omega), if_pos (by omega)]
    rw [show 8 - gs.length + k + gs.length - 8 = k by omega]; exact hg
theorem sxG_gap (gs : List Int) (gap : Int) (h0 : 0 ≤ gap) (j : Nat) (h1 : gap ≤ j) (h2 : (j : Int) < 8 - (gs.length : Int) + gap) : sxG gs gap j = 0 := by
  unfold sxG; rw [if_neg (by omega), if_neg (by omega), if_neg (by omega)]
theorem hs_start (gs : List Int) (gap : Int) (hm : gs.length ≤ 8) : hsm (sxG gs gap) (plk gs.length gap 0) = 0 ∧ lsm (sxG gs gap) (plk gs.length gap 0) = 0 := by
  unfold plk
  by_cases h : gap < 0 ∨ ((0 : Nat) : Int) < gap
  · rw [if_pos h]; exact ⟨rfl, rfl⟩
  · rw [if_neg h]
    have hz : gap = 0 := by omega
    have := hsm_eq (sxG gs gap) (8 - gs.length) 0 (fun j _ h2 => sxG_gap gs gap (by omega) j (by omega) (by omega)) (by omega)
    rw [Nat.zero_add] at this
    rw [Nat.add_zero]
    exact ⟨this.1, this.2⟩
theorem hs_next (gs : List Int) (gap : Int) (k : Nat) (hm : gs.length ≤ 8) (hk : k < gs.length) : hsm (sxG gs gap) (plk gs.length gap (k + 1)) = hsm (sxG gs gap) (plk gs.length gap k + 1) ∧ lsm (sxG gs gap) (plk gs.length gap (k + 1)) = lsm (sxG gs gap) (plk gs.length gap k + 1) := by
  unfold plk
  by_cases h : gap < 0 ∨ ((k + 1 : Nat) : Int) < gap
  · rw [if_pos h, if_pos (by omega)]; exact ⟨rfl, rfl⟩
  · rw [if_neg h]
    by_cases h' : gap < 0 ∨ (k : Int) < gap
    · rw [if_pos h']
      have := hsm_eq (sxG gs gap) (8 - gs.length) (k + 1) (fun j h1 h2 => sxG_gap gs gap (by omega) j (by omega) (by omega)) (by omega)
      rw [show 8 - gs.length + (k + 1) = k + 1 + (8 - gs.length) by omega]
      exact this
    · rw [if_neg h']; exact ⟨rfl, rfl⟩
theorem plk_end (gs : List Int) (gap : Int) (hm : gs.length ≤ 8) (hg : gap ≤ gs.length) (h8 : gap < 0 → gs.length = 8) : plk gs.length gap gs.length = 8 := by
  unfold plk
  by_cases h : gap < 0 ∨ (gs.length : Int) < gap
  · rw [if_pos h]; exact h8 (by omega)
  · rw [if_neg h]; omega
theorem hv0 (G : Nat → Int) (hG : ∀ j, 0 ≤ G j ∧ G j < 65536) (q : Int) (hq : G 0 = q) : bits .or .i64 (wrap64 (hsm G 0)) (wrap64 (q * 281474976710656)) = IntKind.i64.wrap (hsm G 1) := by
  rw [← hq, ← wrapE, ← wrapE]; exact hs_or0 G (hG 0)
theorem hv1 (G : Nat → Int) (hG : ∀ j, 0 ≤ G j ∧ G j < 65536) (q : Int) (hq : G 1 = q) : bits .or .i64 (wrap64 (hsm G 1)) (wrap64 (q * 4294967296)) = IntKind.i64.wrap (hsm G 2) := by
  rw [← hq, ← wrapE, ← wrapE]; exact hs_or1 G (hG 0) (hG 1)
theorem hv2 (G : Nat → Int) (hG : ∀ j, 0 ≤ G j ∧ G j < 65536) (q : Int) (hq : G 2 = q) : bits .or .i64 (wrap64 (hsm G 2)) (wrap64 (q * 65536)) = IntKind.i64.wrap (hsm G 3) := by
  rw [← hq, ← wrapE, ← wrapE]; exact hs_or2 G (hG 0) (hG 1) (hG 2)
theorem hv3 (G : Nat → Int) (hG : ∀ j, 0 ≤ G j ∧ G j < 65536) (q : Int) (hq : G 3 = q) : bits .or .i64 (wrap64 (hsm G 3)) (wrap64 q) = IntKind.i64.wrap (hsm G 4) := by
  rw [← hq, ← wrapE, ← wrapE]; exact hs_or3 G (hG 0) (hG 1) (hG 2) (hG 3)
theorem hv4 (G : Nat → Int) (hG : ∀ j, 0 ≤ G j ∧ G j < 65536) (q : Int) (hq : G 4 = q) : bits .or .i64 (wrap64 (lsm G 4)) (wrap64 (q * 281474976710656)) = IntKind.i64.wrap (lsm G 5) := by
  rw [← hq, ← wrapE, ← wrapE]; exact ls_or4 G (hG 4)
theorem hv5 (G : Nat → Int) (hG : ∀ j, 0 ≤ G j ∧ G j < 65536) (q : Int) (hq : G 5 = q) : bits .or .i64 (wrap64 (lsm G 5)) (wrap64 (q * 4294967296)) = IntKind.i64.wrap (lsm G 6) := by
  rw [← hq, ← wrapE, ← wrapE]; exact ls_or5 G (hG 4) (hG 5)
theorem hv6 (G : Nat → Int) (hG : ∀ j, 0 ≤ G j ∧ G j < 65536) (q : Int) (hq : G 6 = q) : bits .or .i64 (wrap64 (lsm G 6)) (wrap64 (q * 65536)) = IntKind.i64.wrap (lsm G 7) := by
  rw [← hq, ← wrapE, ← wrapE]; exact ls_or6 G (hG 4) (hG 5) (hG 6)
theorem hv7 (G : Nat → Int) (hG : ∀ j, 0 ≤ G j ∧ G j < 65536) (q : Int) (hq : G 7 = q) : bits .or .i64 (wrap64 (lsm G 7)) (wrap64 q) = IntKind.i64.wrap (lsm G 8) := by
  rw [← hq, ← wrapE, ← wrapE]; exact ls_or7 G (hG 4) (hG 5) (hG 6) (hG 7)
theorem row_set {x : World} {p o b i : Nat} {v : Value} {gs : List Int} (h : RowG KN x (some ⟨p, o, none⟩) gs) (hne : p ≠ b) : RowG KN (x.setCell ⟨b, i, none⟩ v).drew (some ⟨p, o, none⟩) gs := fun j hj => by
  obtain ⟨p', o', q, e, hp, hq, c⟩ := h j hj
  cases e
  refine ⟨p, o, q, rfl, by simpa using hp, hq, fun t u hu => ?_⟩
  have := c t u hu
  simp [go_sem, this]
theorem sx_none {ps : List (List UInt8)} (h : sx1 ps [] (-1) = none) : sSix ps = none := by unfold sSix; rw [h]; rfl
theorem sx_no {ps : List (List UInt8)} {gs : List Int} {gap : Int} (h : sx1 ps [] (-1) = some (gs, gap)) (h' : 8 < gs.length ∨ (gap < 0 ∧ gs.length ≠ 8)) : sSix ps = none := by unfold sSix; rw [h, Option.bind_some, if_pos h']
theorem sx_yes {ps : List (List UInt8)} {gs : List Int} {gap : Int} (h : sx1 ps [] (-1) = some (gs, gap)) (h' : ¬ (8 < gs.length ∨ (gap < 0 ∧ gs.length ≠ 8))) : sSix ps = some (sxG gs gap) := by unfold sSix; rw [h, Option.bind_some, if_neg h']
theorem drop_ofL {α : Type} {ps : List α} {k : Nat} {q : α} (h : ps[k]? = some q) : ps.drop k = q :: ps.drop (k + 1) := by
  obtain ⟨hk, e⟩ := List.getElem?_eq_some_iff.1 h
  rw [List.drop_eq_getElem_cons hk, e]

set_option maxHeartbeats 4000000 in
theorem sSix_any (a : Option Addr) (n cap : Nat) (ps : List (List UInt8)) (w : World) (hn : n = ps.length) (hR : RowG KS w a ps) (h1 : n ≤ 1000) (hl : ∀ q ∈ ps, q.length ≤ 1000000) :
    Calls Tryd.prog 40 #[.slice a n cap] w fun e w' => ((∃ G : Nat → Int, sSix ps = some G ∧ (∀ j, 0 ≤ G j ∧ G j < 65536) ∧ e = .returned (.tuple #[.agg #[.bool true, .int .i64 (IntKind.i64.wrap (hsm G 8)), .int .i64 (IntKind.i64.wrap (lsm G 8))], .bool true])) ∨ (sSix ps = none ∧ e = .returned (.tuple #[.agg #[.bool false, .int .i64 0, .int .i64 0], .bool false]))) ∧ Below w.heap.size w w' := by
  have HR := hidP hR
  have HN := hidP hn
  have HL := hidP hl
  clear hR hn hl
  go_enter Tryd.func40, Tryd.ntmps40
  go_wp2_with fail
  have B1 := alloc_below w (.cells #[.bool false, .int .i64 0, .int .i64 0] 25)
  have B2 := alloc_below (w.alloc (.cells #[.bool false, .int .i64 0, .int .i64 0] 25)) (.cells #[.bool true, .int .i64 0, .int .i64 0] 25)
  have s2 : ((w.alloc (.cells #[.bool false, .int .i64 0, .int .i64 0] 25)).alloc (.cells #[.bool true, .int .i64 0, .int .i64 0] 25)).heap.size = w.heap.size + 1 + 1 := by simp
  have e0 : ((w.alloc (.cells #[.bool false, .int .i64 0, .int .i64 0] 25)).alloc (.cells #[.bool true, .int .i64 0, .int .i64 0] 25)).cell? ⟨w.heap.size, 0, none⟩ = some (.bool false) ∧ ((w.alloc (.cells #[.bool false, .int .i64 0, .int .i64 0] 25)).alloc (.cells #[.bool true, .int .i64 0, .int .i64 0] 25)).cell? ⟨w.heap.size, 1, none⟩ = some (.int .i64 0) ∧ ((w.alloc (.cells #[.bool false, .int .i64 0, .int .i64 0] 25)).alloc (.cells #[.bool true, .int .i64 0, .int .i64 0] 25)).cell? ⟨w.heap.size, 2, none⟩ = some (.int .i64 0) := by simp [go_sem]
  have e1 : ((w.alloc (.cells #[.bool false, .int .i64 0, .int .i64 0] 25)).alloc (.cells #[.bool true, .int .i64 0, .int .i64 0] 25)).cell? ⟨w.heap.size + 1, 0, none⟩ = some (.bool true) ∧ ((w.alloc (.cells #[.bool false, .int .i64 0, .int .i64 0] 25)).alloc (.cells #[.bool true, .int .i64 0, .int .i64 0] 25)).cell? ⟨w.heap.size + 1, 1, none⟩ = some (.int .i64 0) ∧ ((w.alloc (.cells #[.bool false, .int .i64 0, .int .i64 0] 25)).alloc (.cells #[.bool true, .int .i64 0, .int .i64 0] 25)).cell? ⟨w.heap.size + 1, 2, none⟩ = some (.int .i64 0) := by simp [go_sem]
  have f0 : ∀ o b, b < w.heap.size + 2 → w.heap.size ≤ b → ((w.alloc (.cells #[.bool false, .int .i64 0, .int .i64 0] 25)).alloc (.cells #[.bool true, .int .i64 0, .int .i64 0] 25)).frozen? ⟨b, o, none⟩ = false := fun o b h1 h2 => by
    have : b = w.heap.size ∨ b = w.heap.size + 1 := by omega
    rcases this with rfl | rfl <;> simp [go_sem]
  have HB2 := hidP (B1.trans (B2.mono B1.size))
  clear B1 B2
  generalize (w.alloc (.cells #[.bool false, .int .i64 0, .int .i64 0] 25)).alloc (.cells #[.bool true, .int .i64 0, .int .i64 0] 25) = W2 at *
  have HO0 := hidP (own_zeroG KN W2 (w.heap.size + 2) 3 (by omega))
  have HE := hidP (And.intro e0 (And.intro e1 f0))
  have HB3 : Hid (Below (w.heap.size + 2) W2 (W2.alloc (.cells #[] 3))) := hidP ((alloc_below W2 _).mono (by omega))
  have HS2 := hidP s2
  rw [s2] at HO0
  clear e0 e1 f0 s2
  generalize W2.alloc (.cells #[] 3) = W3 at *
  go_loopw [5, 6, 7] (fun t5 t6 t7 wr => ∃ (k m c : Nat) (ad : Option Addr) (gs : List Int) (gap : Int), k ≤ n ∧ t7 = .int .i64 k ∧ t6 = .int .i64 gap ∧ t5 = .slice ad m c ∧ -1 ≤ gap ∧ gap ≤ m ∧ m ≤ k ∧ Hid (m = gs.length) ∧ Hid (OwnG KN 3 wr (w.heap.size + 2) (.slice ad m c) gs) ∧ Hid (Below (w.heap.size + 2) W2 wr) ∧ Hid (∀ z ∈ gs, 0 ≤ z ∧ z ≤ 65535) ∧ Hid (sx1 (ps.drop k) gs gap = sx1 ps [] (-1))) (fun _ _ t7 _ => n - (intOf t7).toNat)
  case atStart => exact ⟨0, 0, 0, _, [], -1, by omega, rfl, rfl, rfl, by omega, by omega, by omega, hidP rfl, HO0.out, HB3.out, hidP (by simp), hidP rfl⟩
  case round =>
    obtain ⟨k, m, c, ad, gs, gap, hk, rfl, rfl, rfl, hg0, hg1, hmk, HM, HO, HB, HZ, HI⟩ := hrel
    have HBw := hidP (HB2.out.trans (HB.out.mono (by omega)))
    have hW : w.heap.size + 2 ≤ wr.heap.size := by have := HB.out.size; have := HS2.out; omega
    by_cases hlt : k < n
    · obtain ⟨p, o, q, rfl, hp, hq, c0⟩ := rowS HR.out k (by rw [← HN.out]; exact hlt)
      have c1 := (HBw.out.cell hp).trans c0
      have hp1 : p < wr.heap.size := by omega
      have HD := hidP (drop_ofL hq)
      have HQ := hidP (HL.out q (List.mem_of_getElem? hq))
      clear hq c0 hp
      cases q with
      | nil =>
        have HI2 : Hid (sx1 (ps.drop (k + 1)) gs (if gap < 0 then (gs.length : Int) else gap) = sx1 ps [] (-1)) := hidP (by rw [← HI.out, HD.out, sx1_nil])
        by_cases hneg : gap < 0
        · go_wp2
          go_roundw
          case rel => exact ⟨k + 1, m, c, ad, gs, m, by omega, by go_num, rfl, rfl, by omega, by omega, by omega, HM, HO, HB, HZ, hidP (by have := HI2.out; rw [if_pos hneg, ← HM.out] at this; exact this)⟩
          case measure => simp [intOf]; omega
        · go_wp2
          go_roundw
          case rel => exact ⟨k + 1, m, c, ad, gs, gap, by omega, by go_num, rfl, rfl, by omega, by omega, by omega, HM, HO, HB, HZ, hidP (by have := HI2.out; rw [if_neg hneg] at this; exact this)⟩
          case measure => simp [intOf]; omega
      | cons x r =>
        go_wp2_with fail
        refine (sNumber_any ⟨(x :: r).toArray⟩ 16 65535 (Or.inr rfl) _ (by have := HQ.out; show (x :: r).toArray.size ≤ _; rw [List.size_toArray]; omega)).mono ?_
        rintro e w' ⟨⟨z, hz, rfl⟩ | ⟨hz, z, rfl⟩, rfl⟩
        · have HZ1 := hidP (nmbB_bd 16 65535 (by omega) _ z hz)
          have HI2 : Hid (sx1 (ps.drop (k + 1)) (gs ++ [z]) gap = sx1 ps [] (-1)) := hidP (by
            rw [← HI.out, HD.out, sx1, if_neg (by simp)]
            rw [show (⟨(x :: r).toArray⟩ : ByteArray).data.toList = x :: r from rfl] at hz
            rw [hz])
          clear hz
          go_wp2_with (at_builtin; refine wpList_appG Tryd.tyN _ rfl (.tmp 40) (.tmp 42) 48 rfl (w.heap.size + 2) ad m c 1 gs [z] (.slice (some ⟨w'.heap.size, 0, none⟩) 1 1) rfl HM.out rfl (HO.out.alloc _) rfl (src_rowG Tryd.tyN.1 1 1 (by show 0 < 1; omega) rfl (own_oneG KN w' 0 3 z (Nat.zero_le _)).row (by simp)) (by omega) (by simp; omega) ?_; intro a9 c9 w9 ho9 hg9 ht9)
          go_roundw
          case rel => exact ⟨k + 1, m + 1, c9, a9, gs ++ [z], gap, by omega, by go_num, rfl, rfl, by omega, by omega, by omega, hidP (by rw [List.length_append, HM.out]; rfl), ho9, hidP (below_appG (HB.out.alloc hW _) (HO.out.alloc _) (by simp; omega) hg9), hidP (fun y hy => by rcases List.mem_append.1 hy with h | h; exact HZ.out y h; simp at h; rw [h]; exact HZ1.out), HI2⟩
          case measure => simp [intOf]; omega
        · have HF : Hid (sSix ps = none) := hidP (sx_none (by
            rw [← HI.out, HD.out, sx1, if_neg (by simp)]
            rw [show (⟨(x :: r).toArray⟩ : ByteArray).data.toList = x :: r from rfl] at hz
            rw [hz]))
          clear hz
          have k0 := (HB.out.cell (p := ⟨w.heap.size, 0, none⟩) (by show w.heap.size < _; omega)).trans HE.out.1.1
          have k1 := (HB.out.cell (p := ⟨w.heap.size, 1, none⟩) (by show w.heap.size < _; omega)).trans HE.out.1.2.1
          have k2 := (HB.out.cell (p := ⟨w.heap.size, 2, none⟩) (by show w.heap.size < _; omega)).trans HE.out.1.2.2
          have kf : ∀ o, w'.frozen? ⟨w.heap.size, o, none⟩ = false := fun o => (HB.out.frozen (p := ⟨w.heap.size, o, none⟩) (by show w.heap.size < _; omega)).trans (HE.out.2.2 o _ (by omega) (by omega))
          have hlw : w.heap.size < w'.heap.size := by omega
          go_wp2_with fail
          refine bodyPost_ret (v := .tuple #[.agg #[.bool false, .int .i64 0, .int .i64 0], .bool false]) (by simp [results, Tryd.results40, go_sem, k0, k1, k2]) rfl ⟨Or.inr ⟨HF.out, rfl⟩, ?_⟩
          repeat (first | with_reducible exact HBw.out | (with_reducible refine Below.setCell ?_ (by first | omega | (simp; done) | (simp; omega)) _) | (with_reducible refine Below.alloc ?_ (by first | omega | (simp; done) | (simp; omega)) _))
    · have HK : Hid (sx1 ps [] (-1) = some (gs, gap)) := hidP (by rw [← HI.out, List.drop_eq_nil_of_le (by rw [← HN.out]; omega), sx1])
      have k0 := (HB.out.cell (p := ⟨w.heap.size, 0, none⟩) (by show w.heap.size < _; omega)).trans HE.out.1.1
      have k1 := (HB.out.cell (p := ⟨w.heap.size, 1, none⟩) (by show w.heap.size < _; omega)).trans HE.out.1.2.1
      have k2 := (HB.out.cell (p := ⟨w.heap.size, 2, none⟩) (by show w.heap.size < _; omega)).trans HE.out.1.2.2
      have kf : ∀ o, wr.frozen? ⟨w.heap.size, o, none⟩ = false := fun o => (HB.out.frozen (p := ⟨w.heap.size, o, none⟩) (by show w.heap.size < _; omega)).trans (HE.out.2.2 o _ (by omega) (by omega))
      have hlw : w.heap.size < wr.heap.size := by omega
      by_cases h8 : 8 < m
      · have HF : Hid (sSix ps = none) := hidP (sx_no HK.out (Or.inl (by rw [← HM.out]; exact h8)))
        go_wp2_with fail
        refine bodyPost_ret (v := .tuple #[.agg #[.bool false, .int .i64 0, .int .i64 0], .bool false]) (by simp [results, Tryd.results40, go_sem, k0, k1, k2]) rfl ⟨Or.inr ⟨HF.out, rfl⟩, ?_⟩
        repeat (first | with_reducible exact HBw.out | (with_reducible refine Below.setCell ?_ (by first | omega | (simp; done) | (simp; omega)) _) | (with_reducible refine Below.alloc ?_ (by first | omega | (simp; done) | (simp; omega)) _))
      by_cases hneg : gap < 0
      · by_cases hm8 : m = 8
        · subst hm8
          have HG : Hid (sSix ps = some (sxG gs gap)) := hidP (sx_yes HK.out (by rw [← HM.out]; omega))
          have HSt := hidP (hs_start gs gap (by rw [← HM.out]; omega))
          have HNx := hidP (fun k (h : k < 8) => hs_next gs gap k (by rw [← HM.out]; omega) (by rw [← HM.out]; exact h))
          have HPl := hidP (fun k (q : Int) (h : gs[k]? = some q) => plk_at gs gap k q (by rw [← HM.out]; omega) h)
          have HEn := hidP (plk_end gs gap (by rw [← HM.out]; omega) (by rw [← HM.out]; omega) (by rw [← HM.out]; omega))
          have HGb := hidP (sxG_bd gs gap HZ.out)
          rw [← HM.out] at HSt HNx HPl HEn
          generalize sxG gs gap = G at *
          have j0 := (HB.out.cell (p := ⟨w.heap.size + 1, 0, none⟩) (by show w.heap.size + 1 < _; omega)).trans HE.out.2.1.1
          have j1 := (HB.out.cell (p := ⟨w.heap.size + 1, 1, none⟩) (by show w.heap.size + 1 < _; omega)).trans HE.out.2.1.2.1
          have j2 := (HB.out.cell (p := ⟨w.heap.size + 1, 2, none⟩) (by show w.heap.size + 1 < _; omega)).trans HE.out.2.1.2.2
          have jf : ∀ o, wr.frozen? ⟨w.heap.size + 1, o, none⟩ = false := fun o => (HB.out.frozen (p := ⟨w.heap.size + 1, o, none⟩) (by show w.heap.size + 1 < _; omega)).trans (HE.out.2.2 o _ (by omega) (by omega))
          have HRW := hidP HO.out.row
          have HBk := hidP (fun x o => (HO.out.lt x o).1)
          go_wp2_with fail
          go_loopw [10] (fun t10 x => ∃ k : Nat, k ≤ 8 ∧ t10 = .int .i64 k ∧ x.cell? ⟨w.heap.size + 1, 0, none⟩ = some (.bool true) ∧ x.cell? ⟨w.heap.size + 1, 1, none⟩ = some (.int .i64 (IntKind.i64.wrap (hsm G (plk 8 gap k)))) ∧ x.cell? ⟨w.heap.size + 1, 2, none⟩ = some (.int .i64 (IntKind.i64.wrap (lsm G (plk 8 gap k)))) ∧ (∀ o, x.frozen? ⟨w.heap.size + 1, o, none⟩ = false) ∧ w.heap.size + 2 ≤ x.heap.size ∧ Hid (RowG KN x ad gs) ∧ Hid (Below w.heap.size w x) ∧ x.cell? ⟨w.heap.size, 0, none⟩ = some (.bool false) ∧ x.cell? ⟨w.heap.size, 1, none⟩ = some (.int .i64 0) ∧ x.cell? ⟨w.heap.size, 2, none⟩ = some (.int .i64 0) ∧ (∀ o, x.frozen? ⟨w.heap.size, o, none⟩ = false)) (fun t10 _ => 8 - (intOf t10).toNat)
          case atStart => exact ⟨0, Nat.zero_le _, rfl, j0, by rw [HSt.out.1]; exact j1, by rw [HSt.out.2]; exact j2, jf, hW, HRW, HBw, k0, k1, k2, kf⟩
          case round =>
            obtain ⟨k, hkm, rfl, i0, i1, i2, xf, hX, HRX, HBX, y0, y1, y2, yf⟩ := hrel
            clear j0 j1 j2 jf k0 k1 k2 kf
            by_cases hlt2 : k < 8
            · obtain ⟨p, o, q, rfl, hp, hq, d0⟩ := rowN HRX.out k (by rw [← HM.out]; exact hlt2)
              have HQG := hidP (HPl.out k q hq)
              have HNX := hidP (HNx.out k hlt2)
              clear hq
              have hp2 : w.heap.size + 2 ≤ p := HBk.out p rfl
              have hA : k = 0 ∨ k = 1 ∨ k = 2 ∨ k = 3 ∨ k = 4 ∨ k = 5 ∨ k = 6 ∨ k = 7 := by omega
              have hAk : plk 8 gap k = k := by unfold plk; rw [if_pos (Or.inl hneg)]
              rcases hA with rfl | rfl | rfl | rfl | rfl | rfl | rfl | rfl
              · have HA := hidP hAk
                clear hAk
                rw [Nat.add_zero] at d0
                have HV : Hid (bits .or .i64 (wrap64 (hsm G (plk 8 gap 0))) (wrap64 (q * 281474976710656)) = IntKind.i64.wrap (hsm G (plk 8 gap (0 + 1)))) := hidP (by rw [HNX.out.1, HA.out]; exact hv0 G HGb.out q (by rw [← HA.out]; exact HQG.out))
                have HW : Hid (IntKind.i64.wrap (lsm G (plk 8 gap (0 + 1))) = IntKind.i64.wrap (lsm G (plk 8 gap 0))) := hidP (by rw [HNX.out.2, HA.out]; rfl)
                go_wp2_with fail
                go_region
                go_wp2_with fail
                go_roundw
                case rel => exact ⟨0 + 1, by omega, by go_num, by simp [go_sem, i0], by rw [← HV.out]; simp [go_sem, i1], by rw [HW.out]; simp [go_sem, i2], fun o => by simp [go_sem, xf], by simpa using hX, hidP (row_set HRX.out (by omega)), hidP ((HBX.out.setCell (by show w.heap.size ≤ w.heap.size + 1; omega) _).drew), by simp [go_sem, y0], by simp [go_sem, y1], by simp [go_sem, y2], fun o => by simp [go_sem, yf]⟩
                case measure => simp [intOf]
              · have HA := hidP hAk
                clear hAk
                have HV : Hid (bits .or .i64 (wrap64 (hsm G (plk 8 gap 1))) (wrap64 (q * 4294967296)) = IntKind.i64.wrap (hsm G (plk 8 gap (1 + 1)))) := hidP (by rw [HNX.out.1, HA.out]; exact hv1 G HGb.out q (by rw [← HA.out]; exact HQG.out))
                have HW : Hid (IntKind.i64.wrap (lsm G (plk 8 gap (1 + 1))) = IntKind.i64.wrap (lsm G (plk 8 gap 1))) := hidP (by rw [HNX.out.2, HA.out]; rfl)
                go_wp2_with fail
                go_region
                go_wp2_with fail
                go_roundw
                case rel => exact ⟨1 + 1, by omega, by go_num, by simp [go_sem, i0], by rw [← HV.out]; simp [go_sem, i1], by rw [HW.out]; simp [go_sem, i2], fun o => by simp [go_sem, xf], by simpa using hX, hidP (row_set HRX.out (by omega)), hidP ((HBX.out.setCell (by show w.heap.size ≤ w.heap.size + 1; omega) _).drew), by simp [go_sem, y0], by simp [go_sem, y1], by simp [go_sem, y2], fun o => by simp [go_sem, yf]⟩
                case measure => simp [intOf]
              · have HA := hidP hAk
                clear hAk
                have HV : Hid (bits .or .i64 (wrap64 (hsm G (plk 8 gap 2))) (wrap64 (q * 65536)) = IntKind.i64.wrap (hsm G (plk 8 gap (2 + 1)))) := hidP (by rw [HNX.out.1, HA.out]; exact hv2 G HGb.out q (by rw [← HA.out]; exact HQG.out))
                have HW : Hid (IntKind.i64.wrap (lsm G (plk 8 gap (2 + 1))) = IntKind.i64.wrap (lsm G (plk 8 gap 2))) := hidP (by rw [HNX.out.2, HA.out]; rfl)
                go_wp2_with fail
                go_region
                go_wp2_with fail
                go_roundw
                case rel => exact ⟨2 + 1, by omega, by go_num, by simp [go_sem, i0], by rw [← HV.out]; simp [go_sem, i1], by rw [HW.out]; simp [go_sem, i2], fun o => by simp [go_sem, xf], by simpa using hX, hidP (row_set HRX.out (by omega)), hidP ((HBX.out.setCell (by show w.heap.size ≤ w.heap.size + 1; omega) _).drew), by simp [go_sem, y0], by simp [go_sem, y1], by simp [go_sem, y2], fun o => by simp [go_sem, yf]⟩
                case measure => simp [intOf]
              · have HA := hidP hAk
                clear hAk
                have HV : Hid (bits .or .i64 (wrap64 (hsm G (plk 8 gap 3))) (wrap64 (q)) = IntKind.i64.wrap (hsm G (plk 8 gap (3 + 1)))) := hidP (by rw [HNX.out.1, HA.out]; exact hv3 G HGb.out q (by rw [← HA.out]; exact HQG.out))
                have HW : Hid (IntKind.i64.wrap (lsm G (plk 8 gap (3 + 1))) = IntKind.i64.wrap (lsm G (plk 8 gap 3))) := hidP (by rw [HNX.out.2, HA.out]; rfl)
                go_wp2_with fail
                go_region
                go_wp2_with fail
                go_roundw
                case rel => exact ⟨3 + 1, by omega, by go_num, by simp [go_sem, i0], by rw [← HV.out]; simp [go_sem, i1], by rw [HW.out]; simp [go_sem, i2], fun o => by simp [go_sem, xf], by simpa using hX, hidP (row_set HRX.out (by omega)), hidP ((HBX.out.setCell (by show w.heap.size ≤ w.heap.size + 1; omega) _).drew), by simp [go_sem, y0], by simp [go_sem, y1], by simp [go_sem, y2], fun o => by simp [go_sem, yf]⟩
                case measure => simp [intOf]
              · have HA := hidP hAk
                clear hAk
                have HV : Hid (bits .or .i64 (wrap64 (lsm G (plk 8 gap 4))) (wrap64 (q * 281474976710656)) = IntKind.i64.wrap (lsm G (plk 8 gap (4 + 1)))) := hidP (by rw [HNX.out.2, HA.out]; exact hv4 G HGb.out q (by rw [← HA.out]; exact HQG.out))
                have HW : Hid (IntKind.i64.wrap (hsm G (plk 8 gap (4 + 1))) = IntKind.i64.wrap (hsm G (plk 8 gap 4))) := hidP (by rw [HNX.out.1, HA.out]; rfl)
                go_wp2_with fail
                go_region
                go_wp2_with fail
                go_roundw
                case rel => exact ⟨4 + 1, by omega, by go_num, by simp [go_sem, i0], by rw [HW.out]; simp [go_sem, i1], by rw [← HV.out]; simp [go_sem, i2], fun o => by simp [go_sem, xf], by simpa using hX, hidP (row_set HRX.out (by omega)), hidP ((HBX.out.setCell (by show w.heap.size ≤ w.heap.size + 1; omega) _).drew), by simp [go_sem, y0], by simp [go_sem, y1], by simp [go_sem, y2], fun o => by simp [go_sem, yf]⟩
                case measure => simp [intOf]
              · have HA := hidP hAk
                clear hAk
                have HV : Hid (bits .or .i64 (wrap64 (lsm G (plk 8 gap 5))) (wrap64 (q * 4294967296)) = IntKind.i64.wrap (lsm G (plk 8 gap (5 + 1)))) := hidP (by rw [HNX.out.2, HA.out]; exact hv5 G HGb.out q (by rw [← HA.out]; exact HQG.out))
                have HW : Hid (IntKind.i64.wrap (hsm G (plk 8 gap (5 + 1))) = IntKind.i64.wrap (hsm G (plk 8 gap 5))) := hidP (by rw [HNX.out.1, HA.out]; rfl)
                go_wp2_with fail
                go_region
                go_wp2_with fail
                go_roundw
                case rel => exact ⟨5 + 1, by omega, by go_num, by simp [go_sem, i0], by rw [HW.out]; simp [go_sem, i1], by rw [← HV.out]; simp [go_sem, i2], fun o => by simp [go_sem, xf], by simpa using hX, hidP (row_set HRX.out (by omega)), hidP ((HBX.out.setCell (by show w.heap.size ≤ w.heap.size + 1; omega) _).drew), by simp [go_sem, y0], by simp [go_sem, y1], by simp [go_sem, y2], fun o => by simp [go_sem, yf]⟩
                case measure => simp [intOf]
              · have HA := hidP hAk
                clear hAk
                have HV : Hid (bits .or .i64 (wrap64 (lsm G (plk 8 gap 6))) (wrap64 (q * 65536)) = IntKind.i64.wrap (lsm G (plk 8 gap (6 + 1)))) := hidP (by rw [HNX.out.2, HA.out]; exact hv6 G HGb.out q (by rw [← HA.out]; exact HQG.out))
                have HW : Hid (IntKind.i64.wrap (hsm G (plk 8 gap (6 + 1))) = IntKind.i64.wrap (hsm G (plk 8 gap 6))) := hidP (by rw [HNX.out.1, HA.out]; rfl)
                go_wp2_with fail
                go_region
                go_wp2_with fail
                go_roundw
                case rel => exact ⟨6 + 1, by omega, by go_num, by simp [go_sem, i0], by rw [HW.out]; simp [go_sem, i1], by rw [← HV.out]; simp [go_sem, i2], fun o => by simp [go_sem, xf], by simpa using hX, hidP (row_set HRX.out (by omega)), hidP ((HBX.out.setCell (by show w.heap.size ≤ w.heap.size + 1; omega) _).drew), by simp [go_sem, y0], by simp [go_sem, y1], by simp [go_sem, y2], fun o => by simp [go_sem, yf]⟩
                case measure => simp [intOf]
              · have HA := hidP hAk
                clear hAk
                have HV : Hid (bits .or .i64 (wrap64 (lsm G (plk 8 gap 7))) (wrap64 (q)) = IntKind.i64.wrap (lsm G (plk 8 gap (7 + 1)))) := hidP (by rw [HNX.out.2, HA.out]; exact hv7 G HGb.out q (by rw [← HA.out]; exact HQG.out))
                have HW : Hid (IntKind.i64.wrap (hsm G (plk 8 gap (7 + 1))) = IntKind.i64.wrap (hsm G (plk 8 gap 7))) := hidP (by rw [HNX.out.1, HA.out]; rfl)
                go_wp2_with fail
                go_region
                go_wp2_with fail
                go_roundw
                case rel => exact ⟨7 + 1, by omega, by go_num, by simp [go_sem, i0], by rw [HW.out]; simp [go_sem, i1], by rw [← HV.out]; simp [go_sem, i2], fun o => by simp [go_sem, xf], by simpa using hX, hidP (row_set HRX.out (by omega)), hidP ((HBX.out.setCell (by show w.heap.size ≤ w.heap.size + 1; omega) _).drew), by simp [go_sem, y0], by simp [go_sem, y1], by simp [go_sem, y2], fun o => by simp [go_sem, yf]⟩
                case measure => simp [intOf]
            · have : k = 8 := by omega
              subst this
              have HA := HEn.out
              rw [HA] at i1 i2
              go_wp2_with fail
              refine bodyPost_ret (v := .tuple #[.agg #[.bool true, .int .i64 (IntKind.i64.wrap (hsm G 8)), .int .i64 (IntKind.i64.wrap (lsm G 8))], .bool true]) (by simp [results, Tryd.results40, go_sem, y0, y1, y2]; exact ⟨(wrapE _).symm, (wrapE _).symm⟩) rfl ⟨Or.inl ⟨G, HG.out, HGb.out, rfl⟩, ?_⟩
              repeat (first | with_reducible exact HBX.out | (with_reducible refine Below.setCell ?_ (by first | omega | (simp; done) | (simp; omega)) _) | (with_reducible refine Below.alloc ?_ (by first | omega | (simp; done) | (simp; omega)) _))
        · have HF : Hid (sSix ps = none) := hidP (sx_no HK.out (Or.inr ⟨hneg, by rw [← HM.out]; exact hm8⟩))
          have hb8 : ((m : Int) != 8) = true := by rw [bne_iff_ne]; omega
          go_wp2_with fail
          refine bodyPost_ret (v := .tuple #[.agg #[.bool false, .int .i64 0, .int .i64 0], .bool false]) (by simp [results, Tryd.results40, go_sem, k0, k1, k2]) rfl ⟨Or.inr ⟨HF.out, rfl⟩, ?_⟩
          repeat (first | with_reducible exact HBw.out | (with_reducible refine Below.setCell ?_ (by first | omega | (simp; done) | (simp; omega)) _) | (with_reducible refine Below.alloc ?_ (by first | omega | (simp; done) | (simp; omega)) _))
      · have HG : Hid (sSix ps = some (sxG gs gap)) := hidP (sx_yes HK.out (by rw [← HM.out]; omega))
        have HSt := hidP (hs_start gs gap (by rw [← HM.out]; omega))
        have HNx := hidP (fun k (h : k < m) => hs_next gs gap k (by rw [← HM.out]; omega) (by rw [← HM.out]; exact h))
        have HPl := hidP (fun k (q : Int) (h : gs[k]? = some q) => plk_at gs gap k q (by rw [← HM.out]; omega) h)
        have HEn := hidP (plk_end gs gap (by rw [← HM.out]; omega) (by rw [← HM.out]; omega) (by rw [← HM.out]; omega))
        have HGb := hidP (sxG_bd gs gap HZ.out)
        rw [← HM.out] at HSt HNx HPl HEn
        generalize sxG gs gap = G at *
        have j0 := (HB.out.cell (p := ⟨w.heap.size + 1, 0, none⟩) (by show w.heap.size + 1 < _; omega)).trans HE.out.2.1.1
        have j1 := (HB.out.cell (p := ⟨w.heap.size + 1, 1, none⟩) (by show w.heap.size + 1 < _; omega)).trans HE.out.2.1.2.1
        have j2 := (HB.out.cell (p := ⟨w.heap.size + 1, 2, none⟩) (by show w.heap.size + 1 < _; omega)).trans HE.out.2.1.2.2
        have jf : ∀ o, wr.frozen? ⟨w.heap.size + 1, o, none⟩ = false := fun o => (HB.out.frozen (p := ⟨w.heap.size + 1, o, none⟩) (by show w.heap.size + 1 < _; omega)).trans (HE.out.2.2 o _ (by omega) (by omega))
        have HRW := hidP HO.out.row
        have HBk := hidP (fun x o => (HO.out.lt x o).1)
        go_wp2_with fail
        go_loopw [10] (fun t10 x => ∃ k : Nat, k ≤ m ∧ t10 = .int .i64 k ∧ x.cell? ⟨w.heap.size + 1, 0, none⟩ = some (.bool true) ∧ x.cell? ⟨w.heap.size + 1, 1, none⟩ = some (.int .i64 (IntKind.i64.wrap (hsm G (plk m gap k)))) ∧ x.cell? ⟨w.heap.size + 1, 2, none⟩ = some (.int .i64 (IntKind.i64.wrap (lsm G (plk m gap k)))) ∧ (∀ o, x.frozen? ⟨w.heap.size + 1, o, none⟩ = false) ∧ w.heap.size + 2 ≤ x.heap.size ∧ Hid (RowG KN x ad gs) ∧ Hid (Below w.heap.size w x) ∧ x.cell? ⟨w.heap.size, 0, none⟩ = some (.bool false) ∧ x.cell? ⟨w.heap.size, 1, none⟩ = some (.int .i64 0) ∧ x.cell? ⟨w.heap.size, 2, none⟩ = some (.int .i64 0) ∧ (∀ o, x.frozen? ⟨w.heap.size, o, none⟩ = false)) (fun t10 _ => m - (intOf t10).toNat)
        case atStart => exact ⟨0, Nat.zero_le _, rfl, j0, by rw [HSt.out.1]; exact j1, by rw [HSt.out.2]; exact j2, jf, hW, HRW, HBw, k0, k1, k2, kf⟩
        case round =>
          obtain ⟨k, hkm, rfl, i0, i1, i2, xf, hX, HRX, HBX, y0, y1, y2, yf⟩ := hrel
          clear j0 j1 j2 jf k0 k1 k2 kf
          by_cases hlt2 : k < m
          · obtain ⟨p, o, q, rfl, hp, hq, d0⟩ := rowN HRX.out k (by rw [← HM.out]; exact hlt2)
            have HQG := hidP (HPl.out k q hq)
            have HNX := hidP (HNx.out k hlt2)
            clear hq
            have hp2 : w.heap.size + 2 ≤ p := HBk.out p rfl
            by_cases hkg : (k : Int) < gap
            · have hA : k = 0 ∨ k = 1 ∨ k = 2 ∨ k = 3 ∨ k = 4 ∨ k = 5 ∨ k = 6 ∨ k = 7 := by omega
              have hAk : plk m gap k = k := by unfold plk; rw [if_pos (Or.inr hkg)]
              rcases hA with rfl | rfl | rfl | rfl | rfl | rfl | rfl | rfl
              · have HA := hidP hAk
                clear hAk
                rw [Nat.add_zero] at d0
                have HV : Hid (bits .or .i64 (wrap64 (hsm G (plk m gap 0))) (wrap64 (q * 281474976710656)) = IntKind.i64.wrap (hsm G (plk m gap (0 + 1)))) := hidP (by rw [HNX.out.1, HA.out]; exact hv0 G HGb.out q (by rw [← HA.out]; exact HQG.out))
                have HW : Hid (IntKind.i64.wrap (lsm G (plk m gap (0 + 1))) = IntKind.i64.wrap (lsm G (plk m gap 0))) := hidP (by rw [HNX.out.2, HA.out]; rfl)
                go_wp2_with fail
                go_region
                go_wp2_with fail
                go_roundw
                case rel => exact ⟨0 + 1, by omega, by go_num, by simp [go_sem, i0], by rw [← HV.out]; simp [go_sem, i1], by rw [HW.out]; simp [go_sem, i2], fun o => by simp [go_sem, xf], by simpa using hX, hidP (row_set HRX.out (by omega)), hidP ((HBX.out.setCell (by show w.heap.size ≤ w.heap.size + 1; omega) _).drew), by simp [go_sem, y0], by simp [go_sem, y1], by simp [go_sem, y2], fun o => by simp [go_sem, yf]⟩
                case measure => simp [intOf]; omega
              · have HA := hidP hAk
                clear hAk
                have HV : Hid (bits .or .i64 (wrap64 (hsm G (plk m gap 1))) (wrap64 (q * 4294967296)) = IntKind.i64.wrap (hsm G (plk m gap (1 + 1)))) := hidP (by rw [HNX.out.1, HA.out]; exact hv1 G HGb.out q (by rw [← HA.out]; exact HQG.out))
                have HW : Hid (IntKind.i64.wrap (lsm G (plk m gap (1 + 1))) = IntKind.i64.wrap (lsm G (plk m gap 1))) := hidP (by rw [HNX.out.2, HA.out]; rfl)
                go_wp2_with fail
                go_region
                go_wp2_with fail
                go_roundw
                case rel => exact ⟨1 + 1, by omega, by go_num, by simp [go_sem, i0], by rw [← HV.out]; simp [go_sem, i1], by rw [HW.out]; simp [go_sem, i2], fun o => by simp [go_sem, xf], by simpa using hX, hidP (row_set HRX.out (by omega)), hidP ((HBX.out.setCell (by show w.heap.size ≤ w.heap.size + 1; omega) _).drew), by simp [go_sem, y0], by simp [go_sem, y1], by simp [go_sem, y2], fun o => by simp [go_sem, yf]⟩
                case measure => simp [intOf]; omega
              · have HA := hidP hAk
                clear hAk
                have HV : Hid (bits .or .i64 (wrap64 (hsm G (plk m gap 2))) (wrap64 (q * 65536)) = IntKind.i64.wrap (hsm G (plk m gap (2 + 1)))) := hidP (by rw [HNX.out.1, HA.out]; exact hv2 G HGb.out q (by rw [← HA.out]; exact HQG.out))
                have HW : Hid (IntKind.i64.wrap (lsm G (plk m gap (2 + 1))) = IntKind.i64.wrap (lsm G (plk m gap 2))) := hidP (by rw [HNX.out.2, HA.out]; rfl)
                go_wp2_with fail
                go_region
                go_wp2_with fail
                go_roundw
                case rel => exact ⟨2 + 1, by omega, by go_num, by simp [go_sem, i0], by rw [← HV.out]; simp [go_sem, i1], by rw [HW.out]; simp [go_sem, i2], fun o => by simp [go_sem, xf], by simpa using hX, hidP (row_set HRX.out (by omega)), hidP ((HBX.out.setCell (by show w.heap.size ≤ w.heap.size + 1; omega) _).drew), by simp [go_sem, y0], by simp [go_sem, y1], by simp [go_sem, y2], fun o => by simp [go_sem, yf]⟩
                case measure => simp [intOf]; omega
              · have HA := hidP hAk
                clear hAk
                have HV : Hid (bits .or .i64 (wrap64 (hsm G (plk m gap 3))) (wrap64 (q)) = IntKind.i64.wrap (hsm G (plk m gap (3 + 1)))) := hidP (by rw [HNX.out.1, HA.out]; exact hv3 G HGb.out q (by rw [← HA.out]; exact HQG.out))
                have HW : Hid (IntKind.i64.wrap (lsm G (plk m gap (3 + 1))) = IntKind.i64.wrap (lsm G (plk m gap 3))) := hidP (by rw [HNX.out.2, HA.out]; rfl)
                go_wp2_with fail
                go_region
                go_wp2_with fail
                go_roundw
                case rel => exact ⟨3 + 1, by omega, by go_num, by simp [go_sem, i0], by rw [← HV.out]; simp [go_sem, i1], by rw [HW.out]; simp [go_sem, i2], fun o => by simp [go_sem, xf], by simpa using hX, hidP (row_set HRX.out (by omega)), hidP ((HBX.out.setCell (by show w.heap.size ≤ w.heap.size + 1; omega) _).drew), by simp [go_sem, y0], by simp [go_sem, y1], by simp [go_sem, y2], fun o => by simp [go_sem, yf]⟩
                case measure => simp [intOf]; omega
              · have HA := hidP hAk
                clear hAk
                have HV : Hid (bits .or .i64 (wrap64 (lsm G (plk m gap 4))) (wrap64 (q * 281474976710656)) = IntKind.i64.wrap (lsm G (plk m gap (4 + 1)))) := hidP (by rw [HNX.out.2, HA.out]; exact hv4 G HGb.out q (by rw [← HA.out]; exact HQG.out))
                have HW : Hid (IntKind.i64.wrap (hsm G (plk m gap (4 + 1))) = IntKind.i64.wrap (hsm G (plk m gap 4))) := hidP (by rw [HNX.out.1, HA.out]; rfl)
                go_wp2_with fail
                go_region
                go_wp2_with fail
                go_roundw
                case rel => exact ⟨4 + 1, by omega, by go_num, by simp [go_sem, i0], by rw [HW.out]; simp [go_sem, i1], by rw [← HV.out]; simp [go_sem, i2], fun o => by simp [go_sem, xf], by simpa using hX, hidP (row_set HRX.out (by omega)), hidP ((HBX.out.setCell (by show w.heap.size ≤ w.heap.size + 1; omega) _).drew), by simp [go_sem, y0], by simp [go_sem, y1], by simp [go_sem, y2], fun o => by simp [go_sem, yf]⟩
                case measure => simp [intOf]; omega
              · have HA := hidP hAk
                clear hAk
                have HV : Hid (bits .or .i64 (wrap64 (lsm G (plk m gap 5))) (wrap64 (q * 4294967296)) = IntKind.i64.wrap (lsm G (plk m gap (5 + 1)))) := hidP (by rw [HNX.out.2, HA.out]; exact hv5 G HGb.out q (by rw [← HA.out]; exact HQG.out))
                have HW : Hid (IntKind.i64.wrap (hsm G (plk m gap (5 + 1))) = IntKind.i64.wrap (hsm G (plk m gap 5))) := hidP (by rw [HNX.out.1, HA.out]; rfl)
                go_wp2_with fail
                go_region
                go_wp2_with fail
                go_roundw
                case rel => exact ⟨5 + 1, by omega, by go_num, by simp [go_sem, i0], by rw [HW.out]; simp [go_sem, i1], by rw [← HV.out]; simp [go_sem, i2], fun o => by simp [go_sem, xf], by simpa using hX, hidP (row_set HRX.out (by omega)), hidP ((HBX.out.setCell (by show w.heap.size ≤ w.heap.size + 1; omega) _).drew), by simp [go_sem, y0], by simp [go_sem, y1], by simp [go_sem, y2], fun o => by simp [go_sem, yf]⟩
                case measure => simp [intOf]; omega
              · have HA := hidP hAk
                clear hAk
                have HV : Hid (bits .or .i64 (wrap64 (lsm G (plk m gap 6))) (wrap64 (q * 65536)) = IntKind.i64.wrap (lsm G (plk m gap (6 + 1)))) := hidP (by rw [HNX.out.2, HA.out]; exact hv6 G HGb.out q (by rw [← HA.out]; exact HQG.out))
                have HW : Hid (IntKind.i64.wrap (hsm G (plk m gap (6 + 1))) = IntKind.i64.wrap (hsm G (plk m gap 6))) := hidP (by rw [HNX.out.1, HA.out]; rfl)
                go_wp2_with fail
                go_region
                go_wp2_with fail
                go_roundw
                case rel => exact ⟨6 + 1, by omega, by go_num, by simp [go_sem, i0], by rw [HW.out]; simp [go_sem, i1], by rw [← HV.out]; simp [go_sem, i2], fun o => by simp [go_sem, xf], by simpa using hX, hidP (row_set HRX.out (by omega)), hidP ((HBX.out.setCell (by show w.heap.size ≤ w.heap.size + 1; omega) _).drew), by simp [go_sem, y0], by simp [go_sem, y1], by simp [go_sem, y2], fun o => by simp [go_sem, yf]⟩
                case measure => simp [intOf]; omega
              · have HA := hidP hAk
                clear hAk
                have HV : Hid (bits .or .i64 (wrap64 (lsm G (plk m gap 7))) (wrap64 (q)) = IntKind.i64.wrap (lsm G (plk m gap (7 + 1)))) := hidP (by rw [HNX.out.2, HA.out]; exact hv7 G HGb.out q (by rw [← HA.out]; exact HQG.out))
                have HW : Hid (IntKind.i64.wrap (hsm G (plk m gap (7 + 1))) = IntKind.i64.wrap (hsm G (plk m gap 7))) := hidP (by rw [HNX.out.1, HA.out]; rfl)
                go_wp2_with fail
                go_region
                go_wp2_with fail
                go_roundw
                case rel => exact ⟨7 + 1, by omega, by go_num, by simp [go_sem, i0], by rw [HW.out]; simp [go_sem, i1], by rw [← HV.out]; simp [go_sem, i2], fun o => by simp [go_sem, xf], by simpa using hX, hidP (row_set HRX.out (by omega)), hidP ((HBX.out.setCell (by show w.heap.size ≤ w.heap.size + 1; omega) _).drew), by simp [go_sem, y0], by simp [go_sem, y1], by simp [go_sem, y2], fun o => by simp [go_sem, yf]⟩
                case measure => simp [intOf]; omega
            · have hA : 8 - m + k = 0 ∨ 8 - m + k = 1 ∨ 8 - m + k = 2 ∨ 8 - m + k = 3 ∨ 8 - m + k = 4 ∨ 8 - m + k = 5 ∨ 8 - m + k = 6 ∨ 8 - m + k = 7 := by omega
              have hAk : plk m gap k = 8 - m + k := by unfold plk; rw [if_neg (by omega)]
              rcases hA with hA | hA | hA | hA | hA | hA | hA | hA
              · have HA : Hid (plk m gap k = 0) := hidP (by rw [hAk, hA])
                have hI : (8 : Int) - (m : Int) + (k : Int) = 0 := by omega
                clear hAk hA
                have HV : Hid (bits .or .i64 (wrap64 (hsm G (plk m gap k))) (wrap64 (q * 281474976710656)) = IntKind.i64.wrap (hsm G (plk m gap (k + 1)))) := hidP (by rw [HNX.out.1, HA.out]; exact hv0 G HGb.out q (by rw [← HA.out]; exact HQG.out))
                have HW : Hid (IntKind.i64.wrap (lsm G (plk m gap (k + 1))) = IntKind.i64.wrap (lsm G (plk m gap k))) := hidP (by rw [HNX.out.2, HA.out]; rfl)
                go_wp2_with fail
                go_region
                go_wp2_with fail
                go_roundw
                case rel => exact ⟨k + 1, by omega, by go_num, by simp [go_sem, i0], by rw [← HV.out]; simp [go_sem, i1], by rw [HW.out]; simp [go_sem, i2], fun o => by simp [go_sem, xf], by simpa using hX, hidP (row_set HRX.out (by omega)), hidP ((HBX.out.setCell (by show w.heap.size ≤ w.heap.size + 1; omega) _).drew), by simp [go_sem, y0], by simp [go_sem, y1], by simp [go_sem, y2], fun o => by simp [go_sem, yf]⟩
                case measure => simp [intOf]; omega
              · have HA : Hid (plk m gap k = 1) := hidP (by rw [hAk, hA])
                have hI : (8 : Int) - (m : Int) + (k : Int) = 1 := by omega
                clear hAk hA
                have HV : Hid (bits .or .i64 (wrap64 (hsm G (plk m gap k))) (wrap64 (q * 4294967296)) = IntKind.i64.wrap (hsm G (plk m gap (k + 1)))) := hidP (by rw [HNX.out.1, HA.out]; exact hv1 G HGb.out q (by rw [← HA.out]; exact HQG.out))
                have HW : Hid (IntKind.i64.wrap (lsm G (plk m gap (k + 1))) = IntKind.i64.wrap (lsm G (plk m gap k))) := hidP (by rw [HNX.out.2, HA.out]; rfl)
                go_wp2_with fail
                go_region
                go_wp2_with fail
                go_roundw
                case rel => exact ⟨k + 1, by omega, by go_num, by simp [go_sem, i0], by rw [← HV.out]; simp [go_sem, i1], by rw [HW.out]; simp [go_sem, i2], fun o => by simp [go_sem, xf], by simpa using hX, hidP (row_set HRX.out (by omega)), hidP ((HBX.out.setCell (by show w.heap.size ≤ w.heap.size + 1; omega) _).drew), by simp [go_sem, y0], by simp [go_sem, y1], by simp [go_sem, y2], fun o => by simp [go_sem, yf]⟩
                case measure => simp [intOf]; omega
              · have HA : Hid (plk m gap k = 2) := hidP (by rw [hAk, hA])
                have hI : (8 : Int) - (m : Int) + (k : Int) = 2 := by omega
                clear hAk hA
                have HV : Hid (bits .or .i64 (wrap64 (hsm G (plk m gap k))) (wrap64 (q * 65536)) = IntKind.i64.wrap (hsm G (plk m gap (k + 1)))) := hidP (by rw [HNX.out.1, HA.out]; exact hv2 G HGb.out q (by rw [← HA.out]; exact HQG.out))
                have HW : Hid (IntKind.i64.wrap (lsm G (plk m gap (k + 1))) = IntKind.i64.wrap (lsm G (plk m gap k))) := hidP (by rw [HNX.out.2, HA.out]; rfl)
                go_wp2_with fail
                go_region
                go_wp2_with fail
                go_roundw
                case rel => exact ⟨k + 1, by omega, by go_num, by simp [go_sem, i0], by rw [← HV.out]; simp [go_sem, i1], by rw [HW.out]; simp [go_sem, i2], fun o => by simp [go_sem, xf], by simpa using hX, hidP (row_set HRX.out (by omega)), hidP ((HBX.out.setCell (by show w.heap.size ≤ w.heap.size + 1; omega) _).drew), by simp [go_sem, y0], by simp [go_sem, y1], by simp [go_sem, y2], fun o => by simp [go_sem, yf]⟩
                case measure => simp [intOf]; omega
              · have HA : Hid (plk m gap k = 3) := hidP (by rw [hAk, hA])
                have hI : (8 : Int) - (m : Int) + (k : Int) = 3 := by omega
                clear hAk hA
                have HV : Hid (bits .or .i64 (wrap64 (hsm G (plk m gap k))) (wrap64 (q)) = IntKind.i64.wrap (hsm G (plk m gap (k + 1)))) := hidP (by rw [HNX.out.1, HA.out]; exact hv3 G HGb.out q (by rw [← HA.out]; exact HQG.out))
                have HW : Hid (IntKind.i64.wrap (lsm G (plk m gap (k + 1))) = IntKind.i64.wrap (lsm G (plk m gap k))) := hidP (by rw [HNX.out.2, HA.out]; rfl)
                go_wp2_with fail
                go_region
                go_wp2_with fail
                go_roundw
                case rel => exact ⟨k + 1, by omega, by go_num, by simp [go_sem, i0], by rw [← HV.out]; simp [go_sem, i1], by rw [HW.out]; simp [go_sem, i2], fun o => by simp [go_sem, xf], by simpa using hX, hidP (row_set HRX.out (by omega)), hidP ((HBX.out.setCell (by show w.heap.size ≤ w.heap.size + 1; omega) _).drew), by simp [go_sem, y0], by simp [go_sem, y1], by simp [go_sem, y2], fun o => by simp [go_sem, yf]⟩
                case measure => simp [intOf]; omega
              · have HA : Hid (plk m gap k = 4) := hidP (by rw [hAk, hA])
                have hI : (8 : Int) - (m : Int) + (k : Int) = 4 := by omega
                clear hAk hA
                have HV : Hid (bits .or .i64 (wrap64 (lsm G (plk m gap k))) (wrap64 (q * 281474976710656)) = IntKind.i64.wrap (lsm G (plk m gap (k + 1)))) := hidP (by rw [HNX.out.2, HA.out]; exact hv4 G HGb.out q (by rw [← HA.out]; exact HQG.out))
                have HW : Hid (IntKind.i64.wrap (hsm G (plk m gap (k + 1))) = IntKind.i64.wrap (hsm G (plk m gap k))) := hidP (by rw [HNX.out.1, HA.out]; rfl)
                go_wp2_with fail
                go_region
                go_wp2_with fail
                go_roundw
                case rel => exact ⟨k + 1, by omega, by go_num, by simp [go_sem, i0], by rw [HW.out]; simp [go_sem, i1], by rw [← HV.out]; simp [go_sem, i2], fun o => by simp [go_sem, xf], by simpa using hX, hidP (row_set HRX.out (by omega)), hidP ((HBX.out.setCell (by show w.heap.size ≤ w.heap.size + 1; omega) _).drew), by simp [go_sem, y0], by simp [go_sem, y1], by simp [go_sem, y2], fun o => by simp [go_sem, yf]⟩
                case measure => simp [intOf]; omega
              · have HA : Hid (plk m gap k = 5) := hidP (by rw [hAk, hA])
                have hI : (8 : Int) - (m : Int) + (k : Int) = 5 := by omega
                clear hAk hA
                have HV : Hid (bits .or .i64 (wrap64 (lsm G (plk m gap k))) (wrap64 (q * 4294967296)) = IntKind.i64.wrap (lsm G (plk m gap (k + 1)))) := hidP (by rw [HNX.out.2, HA.out]; exact hv5 G HGb.out q (by rw [← HA.out]; exact HQG.out))
                have HW : Hid (IntKind.i64.wrap (hsm G (plk m gap (k + 1))) = IntKind.i64.wrap (hsm G (plk m gap k))) := hidP (by rw [HNX.out.1, HA.out]; rfl)
                go_wp2_with fail
                go_region
                go_wp2_with fail
                go_roundw
                case rel => exact ⟨k + 1, by omega, by go_num, by simp [go_sem, i0], by rw [HW.out]; simp [go_sem, i1], by rw [← HV.out]; simp [go_sem, i2], fun o => by simp [go_sem, xf], by simpa using hX, hidP (row_set HRX.out (by omega)), hidP ((HBX.out.setCell (by show w.heap.size ≤ w.heap.size + 1; omega) _).drew), by simp [go_sem, y0], by simp [go_sem, y1], by simp [go_sem, y2], fun o => by simp [go_sem, yf]⟩
                case measure => simp [intOf]; omega
              · have HA : Hid (plk m gap k = 6) := hidP (by rw [hAk, hA])
                have hI : (8 : Int) - (m : Int) + (k : Int) = 6 := by omega
                clear hAk hA
                have HV : Hid (bits .or .i64 (wrap64 (lsm G (plk m gap k))) (wrap64 (q * 65536)) = IntKind.i64.wrap (lsm G (plk m gap (k + 1)))) := hidP (by rw [HNX.out.2, HA.out]; exact hv6 G HGb.out q (by rw [← HA.out]; exact HQG.out))
                have HW : Hid (IntKind.i64.wrap (hsm G (plk m gap (k + 1))) = IntKind.i64.wrap (hsm G (plk m gap k))) := hidP (by rw [HNX.out.1, HA.out]; rfl)
                go_wp2_with fail
                go_region
                go_wp2_with fail
                go_roundw
                case rel => exact ⟨k + 1, by omega, by go_num, by simp [go_sem, i0], by rw [HW.out]; simp [go_sem, i1], by rw [← HV.out]; simp [go_sem, i2], fun o => by simp [go_sem, xf], by simpa using hX, hidP (row_set HRX.out (by omega)), hidP ((HBX.out.setCell (by show w.heap.size ≤ w.heap.size + 1; omega) _).drew), by simp [go_sem, y0], by simp [go_sem, y1], by simp [go_sem, y2], fun o => by simp [go_sem, yf]⟩
                case measure => simp [intOf]; omega
              · have HA : Hid (plk m gap k = 7) := hidP (by rw [hAk, hA])
                have hI : (8 : Int) - (m : Int) + (k : Int) = 7 := by omega
                clear hAk hA
                have HV : Hid (bits .or .i64 (wrap64 (lsm G (plk m gap k))) (wrap64 (q)) = IntKind.i64.wrap (lsm G (plk m gap (k + 1)))) := hidP (by rw [HNX.out.2, HA.out]; exact hv7 G HGb.out q (by rw [← HA.out]; exact HQG.out))
                have HW : Hid (IntKind.i64.wrap (hsm G (plk m gap (k + 1))) = IntKind.i64.wrap (hsm G (plk m gap k))) := hidP (by rw [HNX.out.1, HA.out]; rfl)
                go_wp2_with fail
                go_region
                go_wp2_with fail
                go_roundw
                case rel => exact ⟨k + 1, by omega, by go_num, by simp [go_sem, i0], by rw [HW.out]; simp [go_sem, i1], by rw [← HV.out]; simp [go_sem, i2], fun o => by simp [go_sem, xf], by simpa using hX, hidP (row_set HRX.out (by omega)), hidP ((HBX.out.setCell (by show w.heap.size ≤ w.heap.size + 1; omega) _).drew), by simp [go_sem, y0], by simp [go_sem, y1], by simp [go_sem, y2], fun o => by simp [go_sem, yf]⟩
                case measure => simp [intOf]; omega
          · have : k = m := by omega
            subst this
            have HA := HEn.out
            rw [HA] at i1 i2
            go_wp2_with fail
            refine bodyPost_ret (v := .tuple #[.agg #[.bool true, .int .i64 (IntKind.i64.wrap (hsm G 8)), .int .i64 (IntKind.i64.wrap (lsm G 8))], .bool true]) (by simp [results, Tryd.results40, go_sem, y0, y1, y2]; exact ⟨(wrapE _).symm, (wrapE _).symm⟩) rfl ⟨Or.inl ⟨G, HG.out, HGb.out, rfl⟩, ?_⟩
            repeat (first | with_reducible exact HBX.out | (with_reducible refine Below.setCell ?_ (by first | omega | (simp; done) | (simp; omega)) _) | (with_reducible refine Below.alloc ?_ (by first | omega | (simp; done) | (simp; omega)) _))

end Go.Proofs.YtofnnpjadehgmaaDoor
