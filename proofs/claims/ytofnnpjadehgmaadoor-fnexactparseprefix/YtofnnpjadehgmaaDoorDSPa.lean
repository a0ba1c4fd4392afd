/-
  The specification's ParseAddr: of the text of a right address that address and true; of every other text the zero one and false. Nothing old in memory turns.
-/
import Derived.Test.YtofnnpjadehgmaaDoorDSi2
import Derived.Test.YtofnnpjadehgmaaDoorDIPa
import Derived.Test.YtofnnpjadehgmaaDoorDSSix
namespace Go.Proofs.YtofnnpjadehgmaaDoor
open Go.RowKit

theorem splA_bd (b : UInt8) : ∀ (l cur : List UInt8), (splA b cur l).length ≤ l.length + 1 ∧ ∀ q ∈ splA b cur l, q.length ≤ cur.length + l.length
  | [], cur => by simp [splA]
  | c :: r, cur => by
      rw [splA]
      split
      · obtain ⟨h1, h2⟩ := splA_bd b r []
        refine ⟨by simp; omega, fun q hq => ?_⟩
        rcases List.mem_cons.1 hq with rfl | h
        · simp
        · have := h2 q h; simp at this ⊢; omega
      · obtain ⟨h1, h2⟩ := splA_bd b r (cur ++ [c])
        refine ⟨by simp; omega, fun q hq => ?_⟩
        have := h2 q hq
        simp at this ⊢; omega
theorem isT_len {l : List UInt8} {S : Bool} {H L : Int} (h : IsT l S H L) : l.length ≤ 45 := by
  rw [h.2.2.2]
  unfold tA
  split
  · exact txt8_len45 _
  · exact txt4_len45 _
/-- Four numbers below 256. -/
def f4 : List (List UInt8) → Int → Option Int
  | [], V => some V
  | p :: r, V => match nmbB 10 255 p with
      | none => none
      | some n => f4 r (V * 256 + n)
theorem isT_f4 {l : List UInt8} {H L : Int} (h : IsT l false H L) : (splA 46 [] l).length = 4 ∧ f4 (splA 46 [] l) 0 = some L := by
  obtain ⟨h0, h1, h2⟩ := ok_four h.1
  rw [h.2.2.2, show tA false H L = txt4 L from rfl, spl_txt4]
  refine ⟨rfl, ?_⟩
  simp only [f4, nmbB_decs (L / 16777216 % 256) (by omega) (by omega), nmbB_decs (L / 65536 % 256) (by omega) (by omega), nmbB_decs (L / 256 % 256) (by omega) (by omega), nmbB_decs (L % 256) (by omega) (by omega)]
  congr 1; omega
theorem isT_s6 {l : List UInt8} {H L : Int} (h : IsT l true H L) : (splA 46 [] l).length ≠ 4 ∧ ∃ g, sSix (splA 58 [] l) = some g ∧ ∀ j, j < 8 → g j = grp H L j := by
  rw [h.2.2.2, show tA true H L = txt8 (grp H L) from rfl]
  refine ⟨?_, sSix_txt8 (grp H L) (grp_bd H L)⟩
  rw [splA_no 46 _ (txt8_no 46 (Or.inl rfl) (grp H L) (grp_bd H L))]
  simp
theorem hs_back (H L : Int) (hH : -9223372036854775808 ≤ H ∧ H ≤ 9223372036854775807) (G : Nat → Int) (hg : ∀ j, j < 8 → G j = grp H L j) : IntKind.i64.wrap (hsm G 8) = H := by
  simp only [hsm, hg 0 (by omega), hg 1 (by omega), hg 2 (by omega), hg 3 (by omega), grp, IntKind.wrap_i64, IntKind.wrap_u64]
  omega
theorem ls_back (H L : Int) (hL : -9223372036854775808 ≤ L ∧ L ≤ 9223372036854775807) (G : Nat → Int) (hg : ∀ j, j < 8 → G j = grp H L j) : IntKind.i64.wrap (lsm G 8) = L := by
  simp only [lsm, hg 4 (by omega), hg 5 (by omega), hg 6 (by omega), hg 7 (by omega), grp, IntKind.wrap_i64, IntKind.wrap_u64]
  omega
theorem sSplit46 (l : List UInt8) (w : World) (hs : l.length ≤ 100000) :
    Calls Tryd.prog 38 #[.string ⟨l.toArray⟩, .int .u8 46] w fun e w' => ∃ a c, e = .returned (.slice a (splA 46 [] l).length c) ∧ OwnG KS 9 w' w.heap.size (.slice a (splA 46 [] l).length c) (splA 46 [] l) ∧ Below w.heap.size w w' :=
  sSplit_any ⟨l.toArray⟩ 46 w (by show l.toArray.size ≤ _; rw [List.size_toArray]; exact hs)
theorem sSplit58 (l : List UInt8) (w : World) (hs : l.length ≤ 100000) :
    Calls Tryd.prog 38 #[.string ⟨l.toArray⟩, .int .u8 58] w fun e w' => ∃ a c, e = .returned (.slice a (splA 58 [] l).length c) ∧ OwnG KS 9 w' w.heap.size (.slice a (splA 58 [] l).length c) (splA 58 [] l) ∧ Below w.heap.size w w' :=
  sSplit_any ⟨l.toArray⟩ 58 w (by show l.toArray.size ≤ _; rw [List.size_toArray]; exact hs)
theorem sText_ok4 (v : Int) (v0 : 0 ≤ v) (v1 : v ≤ 4294967295) (w : World) : Calls Tryd.prog 41 #[.agg #[.bool false, .int .i64 0, .int .i64 v]] w fun e w' => e = .returned (.string ⟨(txt4 v).toArray⟩) ∧ Below w.heap.size w w' :=
  sText_four false 0 v 0 v (nrm_ok (okB_yes v v0 v1)) v0 v1 w
theorem sText_ok6 (H L : Int) (w : World) : Calls Tryd.prog 41 #[.agg #[.bool true, .int .i64 H, .int .i64 L]] w fun e w' => e = .returned (.string ⟨(txt8 (grp H L)).toArray⟩) ∧ Below w.heap.size w w' := by
  have := sText_six true H L H L (nrm_ok (okB_t H L)) w
  rwa [text_eq] at this
theorem row_setS {x : World} {p o b i : Nat} {v : Value} {gs : List (List UInt8)} (h : RowG KS x (some ⟨p, o, none⟩) gs) (hne : p ≠ b) : RowG KS (x.setCell ⟨b, i, none⟩ v) (some ⟨p, o, none⟩) gs := fun j hj => by
  obtain ⟨p', o', q, e, hp, hq, c⟩ := h j hj
  cases e
  refine ⟨p, o, q, rfl, by simpa using hp, hq, fun t u hu => ?_⟩
  have := c t u hu
  simp [go_sem, this]
theorem pow256 (k : Nat) (h : k ≤ 3) : (256 : Int) ^ k ≤ 16777216 := by
  have : k = 0 ∨ k = 1 ∨ k = 2 ∨ k = 3 := by omega
  rcases this with rfl | rfl | rfl | rfl <;> decide
theorem f4_snoc {ps : List (List UInt8)} {k : Nat} {q : List UInt8} (hq : ps[k]? = some q) (V : Int) : f4 (ps.drop k) V = match nmbB 10 255 q with | none => none | some n => f4 (ps.drop (k + 1)) (V * 256 + n) := by
  rw [drop_ofL hq, f4]

set_option maxHeartbeats 4000000 in
theorem sParse_any (l : List UInt8) (w : World) (hbig : l.length ≤ 9223372036854775807) :
    Calls Tryd.prog 16 #[.string ⟨l.toArray⟩] w fun e w' => ((∃ S H L, IsT l S H L ∧ e = .returned (.tuple #[.agg #[.bool S, .int .i64 H, .int .i64 L], .bool true])) ∨ ((¬ ∃ S H L, IsT l S H L) ∧ e = .returned (.tuple #[.agg #[.bool false, .int .i64 0, .int .i64 0], .bool false]))) ∧ Below w.heap.size w w' := by
  by_cases h45 : 45 < l.length
  · have HNO : Hid (¬ ∃ S H L, IsT l S H L) := hidP (by rintro ⟨S, H, L, h⟩; have := isT_len h; omega)
    go_enter Tryd.func16, Tryd.ntmps16
    go_wp2_with fail
    refine bodyPost_ret (v := .tuple #[.agg #[.bool false, .int .i64 0, .int .i64 0], .bool false]) (by simp [results, Tryd.results16, go_sem]) rfl ⟨Or.inr ⟨HNO.out, rfl⟩, ?_⟩
    exact (Below.refl _ _).alloc (Nat.le_refl _) _
  go_enter Tryd.func16, Tryd.ntmps16
  go_wp2_with fail
  have s2 : ((w.alloc (.cells #[.bool false, .int .i64 0, .int .i64 0] 25)).alloc (.cells #[.bool false, .int .i64 0, .int .i64 0] 25)).heap.size = w.heap.size + 1 + 1 := by simp
  have k0 : ((w.alloc (.cells #[.bool false, .int .i64 0, .int .i64 0] 25)).alloc (.cells #[.bool false, .int .i64 0, .int .i64 0] 25)).cell? ⟨w.heap.size, 0, none⟩ = some (.bool false) := by simp [go_sem]
  have k1 : ((w.alloc (.cells #[.bool false, .int .i64 0, .int .i64 0] 25)).alloc (.cells #[.bool false, .int .i64 0, .int .i64 0] 25)).cell? ⟨w.heap.size, 1, none⟩ = some (.int .i64 0) := by simp [go_sem]
  have k2 : ((w.alloc (.cells #[.bool false, .int .i64 0, .int .i64 0] 25)).alloc (.cells #[.bool false, .int .i64 0, .int .i64 0] 25)).cell? ⟨w.heap.size, 2, none⟩ = some (.int .i64 0) := by simp [go_sem]
  have j0 : ((w.alloc (.cells #[.bool false, .int .i64 0, .int .i64 0] 25)).alloc (.cells #[.bool false, .int .i64 0, .int .i64 0] 25)).cell? ⟨w.heap.size + 1, 0, none⟩ = some (.bool false) := by simp [go_sem]
  have j1 : ((w.alloc (.cells #[.bool false, .int .i64 0, .int .i64 0] 25)).alloc (.cells #[.bool false, .int .i64 0, .int .i64 0] 25)).cell? ⟨w.heap.size + 1, 1, none⟩ = some (.int .i64 0) := by simp [go_sem]
  have j2 : ((w.alloc (.cells #[.bool false, .int .i64 0, .int .i64 0] 25)).alloc (.cells #[.bool false, .int .i64 0, .int .i64 0] 25)).cell? ⟨w.heap.size + 1, 2, none⟩ = some (.int .i64 0) := by simp [go_sem]
  have kf : ∀ o, ((w.alloc (.cells #[.bool false, .int .i64 0, .int .i64 0] 25)).alloc (.cells #[.bool false, .int .i64 0, .int .i64 0] 25)).frozen? ⟨w.heap.size, o, none⟩ = false := fun o => by simp [go_sem]
  have jf : ∀ o, ((w.alloc (.cells #[.bool false, .int .i64 0, .int .i64 0] 25)).alloc (.cells #[.bool false, .int .i64 0, .int .i64 0] 25)).frozen? ⟨w.heap.size + 1, o, none⟩ = false := fun o => by simp [go_sem]
  have HB2 : Hid (Below w.heap.size w ((w.alloc (.cells #[.bool false, .int .i64 0, .int .i64 0] 25)).alloc (.cells #[.bool false, .int .i64 0, .int .i64 0] 25))) := hidP (((Below.refl _ w).alloc (Nat.le_refl _) _).alloc (by simp) _)
  generalize ((w.alloc (.cells #[.bool false, .int .i64 0, .int .i64 0] 25)).alloc (.cells #[.bool false, .int .i64 0, .int .i64 0] 25)) = W2 at *
  have hS2 : w.heap.size + 2 ≤ W2.heap.size := by omega
  clear s2
  refine (sSplit46 l _ (by omega)).mono ?_
  rintro e w1 ⟨a, c, rfl, ho, hb⟩
  have HC := hidP (splA_bd 46 l [])
  have h4' : (splA 46 [] l).length ≤ l.length + 1 := HC.out.1
  have HPL := hidP (fun q (h : q ∈ splA 46 [] l) => HC.out.2 q h)
  have HI4 := hidP (fun (H L : Int) (h : IsT l false H L) => isT_f4 h)
  have HI6 := hidP (fun (H L : Int) (h : IsT l true H L) => isT_s6 h)
  generalize splA 46 [] l = T at *
  have k0 := (hb.cell (p := ⟨w.heap.size, 0, none⟩) (by show w.heap.size < _; omega)).trans k0
  have k1 := (hb.cell (p := ⟨w.heap.size, 1, none⟩) (by show w.heap.size < _; omega)).trans k1
  have k2 := (hb.cell (p := ⟨w.heap.size, 2, none⟩) (by show w.heap.size < _; omega)).trans k2
  have kf : ∀ o, w1.frozen? ⟨w.heap.size, o, none⟩ = false := fun o => (hb.frozen (p := ⟨w.heap.size, o, none⟩) (by show w.heap.size < _; omega)).trans (kf o)
  have j0 := (hb.cell (p := ⟨w.heap.size + 1, 0, none⟩) (by show w.heap.size + 1 < _; omega)).trans j0
  have j1 := (hb.cell (p := ⟨w.heap.size + 1, 1, none⟩) (by show w.heap.size + 1 < _; omega)).trans j1
  have j2 := (hb.cell (p := ⟨w.heap.size + 1, 2, none⟩) (by show w.heap.size + 1 < _; omega)).trans j2
  have jf : ∀ o, w1.frozen? ⟨w.heap.size + 1, o, none⟩ = false := fun o => (hb.frozen (p := ⟨w.heap.size + 1, o, none⟩) (by show w.heap.size + 1 < _; omega)).trans (jf o)
  have HBw := hidP (HB2.out.trans (hb.mono HB2.out.size))
  have hS1 : w.heap.size + 2 ≤ w1.heap.size := by have := hb.size; omega
  have HRow := hidP ho.row
  have HBk := hidP (fun x h => (ho.lt x h).1)
  obtain ⟨n, hn⟩ : ∃ n, n = T.length := ⟨_, rfl⟩
  rw [← hn] at HBk
  rw [← hn]
  rw [← hn] at h4'
  have HN := hidP hn
  clear hb ho
  by_cases h4 : n = 4
  · subst h4
    clear hn
    go_wp2_with fail
    go_loopw [6] (fun t6 x => ∃ (k : Nat) (V : Int), k ≤ 4 ∧ t6 = .int .i64 k ∧ x.cell? ⟨w.heap.size + 1, 0, none⟩ = some (.bool false) ∧ x.cell? ⟨w.heap.size + 1, 1, none⟩ = some (.int .i64 0) ∧ x.cell? ⟨w.heap.size + 1, 2, none⟩ = some (.int .i64 V) ∧ 0 ≤ V ∧ V ≤ 4294967295 ∧ Hid (V < 256 ^ k) ∧ (∀ o, x.frozen? ⟨w.heap.size + 1, o, none⟩ = false) ∧ x.cell? ⟨w.heap.size, 0, none⟩ = some (.bool false) ∧ x.cell? ⟨w.heap.size, 1, none⟩ = some (.int .i64 0) ∧ x.cell? ⟨w.heap.size, 2, none⟩ = some (.int .i64 0) ∧ (∀ o, x.frozen? ⟨w.heap.size, o, none⟩ = false) ∧ w.heap.size + 2 ≤ x.heap.size ∧ Hid (RowG KS x a T) ∧ Hid (Below w.heap.size w x) ∧ Hid (f4 (T.drop k) V = f4 T 0)) (fun t6 _ => 4 - (intOf t6).toNat)
    case atStart => exact ⟨0, 0, by omega, rfl, j0, j1, j2, by omega, by omega, hidP (by simp), jf, k0, k1, k2, kf, hS1, HRow, HBw, hidP rfl⟩
    case round =>
      clear k0 k1 k2 kf j0 j1 j2 jf
      obtain ⟨k, V, hk, rfl, j0, j1, j2, hV0, hV1, HV, jf, k0, k1, k2, kf, hX, HRX, HBX, HI⟩ := hrel
      by_cases hlt : k < 4
      · have hV3 : V ≤ 16777215 := by
          have h1 := HV.out
          have := pow256 k (by omega)
          omega
        obtain ⟨p, o, q, rfl, hp, hq, c0⟩ := rowS HRX.out k (by rw [← HN.out]; exact hlt)
        have hp2 : W2.heap.size ≤ p := HBk.out p rfl
        have HQ := hidP (HPL.out q (List.mem_of_getElem? hq))
        have HF4 := hidP (f4_snoc hq V)
        clear hq
        go_wp2_with fail
        refine (sNumber_any ⟨q.toArray⟩ 10 255 (Or.inl rfl) _ (by have := HQ.out; show q.toArray.size ≤ _; rw [List.size_toArray]; simp at this; omega)).mono ?_
        rintro e w' ⟨⟨z, hz, rfl⟩ | ⟨hz, z, rfl⟩, rfl⟩
        · obtain ⟨z0, z1⟩ := nmbB_bd 10 255 (by omega) _ z hz
          have HI2 : Hid (f4 (T.drop (k + 1)) (V * 256 + z) = f4 T 0) := hidP (by
            rw [show (⟨q.toArray⟩ : ByteArray).data.toList = q from rfl] at hz
            rw [← HI.out, HF4.out, hz])
          have HV2 : Hid (V * 256 + z < 256 ^ (k + 1)) := hidP (by have := HV.out; rw [Int.pow_succ]; omega)
          clear hz
          go_wp2_with fail
          go_roundw
          case rel => exact ⟨k + 1, V * 256 + z, by omega, by go_num, by simp [go_sem, j0], by simp [go_sem, j1], by simp [go_sem, j2], by omega, by omega, HV2, fun o => by simp [go_sem, jf], by simp [go_sem, k0], by simp [go_sem, k1], by simp [go_sem, k2], fun o => by simp [go_sem, kf], by simpa using hX, hidP (row_setS HRX.out (by omega)), hidP (HBX.out.setCell (by show w.heap.size ≤ w.heap.size + 1; omega) _), HI2⟩
          case measure => simp [intOf]; omega
        · have HNO : Hid (¬ ∃ S H L, IsT l S H L) := hidP (by
            rintro ⟨S, H, L, h⟩
            cases S
            · have := (HI4.out H L h).2
              rw [show (⟨q.toArray⟩ : ByteArray).data.toList = q from rfl] at hz
              rw [← HI.out, HF4.out, hz] at this
              cases this
            · exact (HI6.out H L h).1 HN.out.symm)
          clear hz
          go_wp2_with fail
          refine bodyPost_ret (v := .tuple #[.agg #[.bool false, .int .i64 0, .int .i64 0], .bool false]) (by simp [results, Tryd.results16, go_sem, k0, k1, k2]) rfl ⟨Or.inr ⟨HNO.out, rfl⟩, ?_⟩
          repeat (first | with_reducible exact HBX.out | (with_reducible refine Below.setCell ?_ (by first | omega | (simp; done) | (simp; omega)) _) | (with_reducible refine Below.alloc ?_ (by first | omega | (simp; done) | (simp; omega)) _))
      · have h4e : k = 4 := by omega
        subst h4e
        have HF : Hid (f4 T 0 = some V) := hidP (by rw [← HI.out, List.drop_eq_nil_of_le (by rw [← HN.out]; exact Nat.le_refl _), f4])
        have HONE : Hid (∀ S H L, IsT l S H L → IsT l false 0 V) := hidP (fun S H L h => by
          cases S
          · have e := (HI4.out H L h).2
            rw [HF.out] at e
            cases e
            obtain ⟨x0, _, _⟩ := ok_four h.1
            subst x0
            exact h
          · exact absurd HN.out.symm (HI6.out H L h).1)
        go_wp2_with fail
        refine (sText_ok4 V hV0 hV1 _).mono ?_
        rintro e w5 ⟨rfl, hb5⟩
        have k0 := (hb5.cell (p := ⟨w.heap.size, 0, none⟩) (by show w.heap.size < _; omega)).trans k0
        have k1 := (hb5.cell (p := ⟨w.heap.size, 1, none⟩) (by show w.heap.size < _; omega)).trans k1
        have k2 := (hb5.cell (p := ⟨w.heap.size, 2, none⟩) (by show w.heap.size < _; omega)).trans k2
        have kf : ∀ o, w5.frozen? ⟨w.heap.size, o, none⟩ = false := fun o => (hb5.frozen (p := ⟨w.heap.size, o, none⟩) (by show w.heap.size < _; omega)).trans (kf o)
        have j0 := (hb5.cell (p := ⟨w.heap.size + 1, 0, none⟩) (by show w.heap.size + 1 < _; omega)).trans j0
        have j1 := (hb5.cell (p := ⟨w.heap.size + 1, 1, none⟩) (by show w.heap.size + 1 < _; omega)).trans j1
        have j2 := (hb5.cell (p := ⟨w.heap.size + 1, 2, none⟩) (by show w.heap.size + 1 < _; omega)).trans j2
        have jf : ∀ o, w5.frozen? ⟨w.heap.size + 1, o, none⟩ = false := fun o => (hb5.frozen (p := ⟨w.heap.size + 1, o, none⟩) (by show w.heap.size + 1 < _; omega)).trans (jf o)
        have HB5 := hidP (HBX.out.trans (hb5.mono HBX.out.size))
        have hX5 : w.heap.size + 2 ≤ w5.heap.size := by have := hb5.size; omega
        clear hb5
        by_cases he : l = txt4 V
        · have HIS : Hid (IsT l false 0 V) := hidP ⟨okB_yes V hV0 hV1, by omega, by omega, he⟩
          subst he
          go_wp2_with fail
          refine bodyPost_ret (v := .tuple #[.agg #[.bool false, .int .i64 0, .int .i64 V], .bool true]) (by simp [results, Tryd.results16, go_sem, k0, k1, k2]) rfl ⟨Or.inl ⟨false, 0, V, HIS.out, rfl⟩, ?_⟩
          repeat (first | with_reducible exact HB5.out | (with_reducible refine Below.setCell ?_ (by first | omega | (simp; done) | (simp; omega)) _) | (with_reducible refine Below.alloc ?_ (by first | omega | (simp; done) | (simp; omega)) _))
        · have hne := beq_no he
          have HNO : Hid (¬ ∃ S H L, IsT l S H L) := hidP (by rintro ⟨S, H, L, h⟩; exact he (HONE.out S H L h).2.2.2)
          clear he
          go_wp2_with fail
          refine bodyPost_ret (v := .tuple #[.agg #[.bool false, .int .i64 0, .int .i64 0], .bool false]) (by simp [results, Tryd.results16, go_sem, k0, k1, k2]) rfl ⟨Or.inr ⟨HNO.out, rfl⟩, ?_⟩
          repeat (first | with_reducible exact HB5.out | (with_reducible refine Below.setCell ?_ (by first | omega | (simp; done) | (simp; omega)) _) | (with_reducible refine Below.alloc ?_ (by first | omega | (simp; done) | (simp; omega)) _))
  · have hb4 : ((n : Int) == 4) = false := by rw [beq_eq_false_iff_ne]; omega
    have HN4 := hidP h4
    clear h4 hn
    go_wp2_with fail
    refine (sSplit58 l _ (by omega)).mono ?_
    rintro e w3 ⟨a3, c3, rfl, ho3, hb3⟩
    have HC3 := hidP (splA_bd 58 l [])
    have h3' : (splA 58 [] l).length ≤ l.length + 1 := HC3.out.1
    have k0 := (hb3.cell (p := ⟨w.heap.size, 0, none⟩) (by show w.heap.size < _; omega)).trans k0
    have k1 := (hb3.cell (p := ⟨w.heap.size, 1, none⟩) (by show w.heap.size < _; omega)).trans k1
    have k2 := (hb3.cell (p := ⟨w.heap.size, 2, none⟩) (by show w.heap.size < _; omega)).trans k2
    have kf : ∀ o, w3.frozen? ⟨w.heap.size, o, none⟩ = false := fun o => (hb3.frozen (p := ⟨w.heap.size, o, none⟩) (by show w.heap.size < _; omega)).trans (kf o)
    have j0 := (hb3.cell (p := ⟨w.heap.size + 1, 0, none⟩) (by show w.heap.size + 1 < _; omega)).trans j0
    have j1 := (hb3.cell (p := ⟨w.heap.size + 1, 1, none⟩) (by show w.heap.size + 1 < _; omega)).trans j1
    have j2 := (hb3.cell (p := ⟨w.heap.size + 1, 2, none⟩) (by show w.heap.size + 1 < _; omega)).trans j2
    have jf : ∀ o, w3.frozen? ⟨w.heap.size + 1, o, none⟩ = false := fun o => (hb3.frozen (p := ⟨w.heap.size + 1, o, none⟩) (by show w.heap.size + 1 < _; omega)).trans (jf o)
    have HB3 := hidP (HBw.out.trans (hb3.mono HBw.out.size))
    have hX3 : w.heap.size + 2 ≤ w3.heap.size := by have := hb3.size; omega
    have HSX := hidP (sSix_any a3 (splA 58 [] l).length c3 (splA 58 [] l) w3 rfl ho3.row (by omega) (fun q hq => by have := HC3.out.2 q hq; simp at this; omega))
    clear ho3 hb3
    go_wp2_with fail
    refine HSX.out.mono ?_
    rintro e w4 ⟨⟨G, hG, hGb, rfl⟩ | ⟨hG, rfl⟩, hb4'⟩
    · have k0 := (hb4'.cell (p := ⟨w.heap.size, 0, none⟩) (by show w.heap.size < _; omega)).trans k0
      have k1 := (hb4'.cell (p := ⟨w.heap.size, 1, none⟩) (by show w.heap.size < _; omega)).trans k1
      have k2 := (hb4'.cell (p := ⟨w.heap.size, 2, none⟩) (by show w.heap.size < _; omega)).trans k2
      have kf : ∀ o, w4.frozen? ⟨w.heap.size, o, none⟩ = false := fun o => (hb4'.frozen (p := ⟨w.heap.size, o, none⟩) (by show w.heap.size < _; omega)).trans (kf o)
      have j0 := (hb4'.cell (p := ⟨w.heap.size + 1, 0, none⟩) (by show w.heap.size + 1 < _; omega)).trans j0
      have j1 := (hb4'.cell (p := ⟨w.heap.size + 1, 1, none⟩) (by show w.heap.size + 1 < _; omega)).trans j1
      have j2 := (hb4'.cell (p := ⟨w.heap.size + 1, 2, none⟩) (by show w.heap.size + 1 < _; omega)).trans j2
      have jf : ∀ o, w4.frozen? ⟨w.heap.size + 1, o, none⟩ = false := fun o => (hb4'.frozen (p := ⟨w.heap.size + 1, o, none⟩) (by show w.heap.size + 1 < _; omega)).trans (jf o)
      have HB4 := hidP (HB3.out.trans (hb4'.mono HB3.out.size))
      have hX4 : w.heap.size + 2 ≤ w4.heap.size := by have := hb4'.size; omega
      have l0 : w.heap.size < w4.heap.size := by omega
      have l1 : w.heap.size + 1 < w4.heap.size := by omega
      clear hb4'
      obtain ⟨H, hH⟩ : ∃ H, H = IntKind.i64.wrap (hsm G 8) := ⟨_, rfl⟩
      obtain ⟨L, hL⟩ : ∃ L, L = IntKind.i64.wrap (lsm G 8) := ⟨_, rfl⟩
      rw [← hH, ← hL]
      have HONE : Hid (∀ S H' L', IsT l S H' L' → IsT l true H L) := hidP (fun S H' L' h => by
        cases S
        · exact absurd (HN.out.trans (HI4.out H' L' h).1) HN4.out
        · obtain ⟨g', e1, e2⟩ := (HI6.out H' L' h).2
          rw [hG] at e1
          cases e1
          rw [hH, hL, hs_back H' L' h.2.1 G e2, ls_back H' L' h.2.2.1 G e2]
          exact h)
      have HBD : Hid ((-9223372036854775808 ≤ H ∧ H ≤ 9223372036854775807) ∧ (-9223372036854775808 ≤ L ∧ L ≤ 9223372036854775807)) := hidP (by rw [hH, hL]; exact ⟨wrap_bd _, wrap_bd _⟩)
      clear hH hL hG hGb
      go_wp2_with fail
      have b5 : Below w.heap.size w ((((w4.setCell ⟨w.heap.size + 1, 0, none⟩ (.bool true)).setCell ⟨w.heap.size + 1, 1, none⟩ (.int .i64 H)).setCell ⟨w.heap.size + 1, 2, none⟩ (.int .i64 L)).alloc (.cells #[.bool true, .int .i64 H, .int .i64 L] 25)) := (((HB4.out.setCell (by show w.heap.size ≤ w.heap.size + 1; omega) _).setCell (by show w.heap.size ≤ w.heap.size + 1; omega) _).setCell (by show w.heap.size ≤ w.heap.size + 1; omega) _).alloc (by simp; omega) _
      refine (sText_ok6 H L _).mono ?_
      rintro e w5 ⟨rfl, hb5⟩
      have x0 : ((((w4.setCell ⟨w.heap.size + 1, 0, none⟩ (.bool true)).setCell ⟨w.heap.size + 1, 1, none⟩ (.int .i64 H)).setCell ⟨w.heap.size + 1, 2, none⟩ (.int .i64 L)).alloc (.cells #[.bool true, .int .i64 H, .int .i64 L] 25)).cell? ⟨w.heap.size, 0, none⟩ = some (.bool false) := by simp [go_sem, k0, l0]
      have x1 : ((((w4.setCell ⟨w.heap.size + 1, 0, none⟩ (.bool true)).setCell ⟨w.heap.size + 1, 1, none⟩ (.int .i64 H)).setCell ⟨w.heap.size + 1, 2, none⟩ (.int .i64 L)).alloc (.cells #[.bool true, .int .i64 H, .int .i64 L] 25)).cell? ⟨w.heap.size, 1, none⟩ = some (.int .i64 0) := by simp [go_sem, k1, l0]
      have x2 : ((((w4.setCell ⟨w.heap.size + 1, 0, none⟩ (.bool true)).setCell ⟨w.heap.size + 1, 1, none⟩ (.int .i64 H)).setCell ⟨w.heap.size + 1, 2, none⟩ (.int .i64 L)).alloc (.cells #[.bool true, .int .i64 H, .int .i64 L] 25)).cell? ⟨w.heap.size, 2, none⟩ = some (.int .i64 0) := by simp [go_sem, k2, l0]
      have xf : ∀ o, ((((w4.setCell ⟨w.heap.size + 1, 0, none⟩ (.bool true)).setCell ⟨w.heap.size + 1, 1, none⟩ (.int .i64 H)).setCell ⟨w.heap.size + 1, 2, none⟩ (.int .i64 L)).alloc (.cells #[.bool true, .int .i64 H, .int .i64 L] 25)).frozen? ⟨w.heap.size, o, none⟩ = false := fun o => by simp [go_sem, kf, l0]
      have y0 : ((((w4.setCell ⟨w.heap.size + 1, 0, none⟩ (.bool true)).setCell ⟨w.heap.size + 1, 1, none⟩ (.int .i64 H)).setCell ⟨w.heap.size + 1, 2, none⟩ (.int .i64 L)).alloc (.cells #[.bool true, .int .i64 H, .int .i64 L] 25)).cell? ⟨w.heap.size + 1, 0, none⟩ = some (.bool true) := by simp [go_sem, j0, l1]
      have y1 : ((((w4.setCell ⟨w.heap.size + 1, 0, none⟩ (.bool true)).setCell ⟨w.heap.size + 1, 1, none⟩ (.int .i64 H)).setCell ⟨w.heap.size + 1, 2, none⟩ (.int .i64 L)).alloc (.cells #[.bool true, .int .i64 H, .int .i64 L] 25)).cell? ⟨w.heap.size + 1, 1, none⟩ = some (.int .i64 H) := by simp [go_sem, j1, l1]
      have y2 : ((((w4.setCell ⟨w.heap.size + 1, 0, none⟩ (.bool true)).setCell ⟨w.heap.size + 1, 1, none⟩ (.int .i64 H)).setCell ⟨w.heap.size + 1, 2, none⟩ (.int .i64 L)).alloc (.cells #[.bool true, .int .i64 H, .int .i64 L] 25)).cell? ⟨w.heap.size + 1, 2, none⟩ = some (.int .i64 L) := by simp [go_sem, j2, l1]
      have sz : w.heap.size + 2 ≤ ((((w4.setCell ⟨w.heap.size + 1, 0, none⟩ (.bool true)).setCell ⟨w.heap.size + 1, 1, none⟩ (.int .i64 H)).setCell ⟨w.heap.size + 1, 2, none⟩ (.int .i64 L)).alloc (.cells #[.bool true, .int .i64 H, .int .i64 L] 25)).heap.size := by simp; omega
      clear k0 k1 k2 kf j0 j1 j2 jf
      have HB5 := hidP (b5.trans (hb5.mono b5.size))
      clear b5
      generalize ((((w4.setCell ⟨w.heap.size + 1, 0, none⟩ (.bool true)).setCell ⟨w.heap.size + 1, 1, none⟩ (.int .i64 H)).setCell ⟨w.heap.size + 1, 2, none⟩ (.int .i64 L)).alloc (.cells #[.bool true, .int .i64 H, .int .i64 L] 25)) = W5 at *
      have k0 := (hb5.cell (p := ⟨w.heap.size, 0, none⟩) (by show w.heap.size < _; omega)).trans x0
      have k1 := (hb5.cell (p := ⟨w.heap.size, 1, none⟩) (by show w.heap.size < _; omega)).trans x1
      have k2 := (hb5.cell (p := ⟨w.heap.size, 2, none⟩) (by show w.heap.size < _; omega)).trans x2
      have kf : ∀ o, w5.frozen? ⟨w.heap.size, o, none⟩ = false := fun o => (hb5.frozen (p := ⟨w.heap.size, o, none⟩) (by show w.heap.size < _; omega)).trans (xf o)
      have j0 := (hb5.cell (p := ⟨w.heap.size + 1, 0, none⟩) (by show w.heap.size + 1 < _; omega)).trans y0
      have j1 := (hb5.cell (p := ⟨w.heap.size + 1, 1, none⟩) (by show w.heap.size + 1 < _; omega)).trans y1
      have j2 := (hb5.cell (p := ⟨w.heap.size + 1, 2, none⟩) (by show w.heap.size + 1 < _; omega)).trans y2
      have hX5 : w.heap.size + 2 ≤ w5.heap.size := by have := hb5.size; omega
      clear hb5 x0 x1 x2 xf y0 y1 y2
      by_cases he : l = txt8 (grp H L)
      · have HIS : Hid (IsT l true H L) := hidP ⟨okB_t H L, HBD.out.1, HBD.out.2, he⟩
        subst he
        go_wp2_with fail
        refine bodyPost_ret (v := .tuple #[.agg #[.bool true, .int .i64 H, .int .i64 L], .bool true]) (by simp [results, Tryd.results16, go_sem, k0, k1, k2]) rfl ⟨Or.inl ⟨true, H, L, HIS.out, rfl⟩, ?_⟩
        repeat (first | with_reducible exact HB5.out | (with_reducible refine Below.setCell ?_ (by first | omega | (simp; done) | (simp; omega)) _) | (with_reducible refine Below.alloc ?_ (by first | omega | (simp; done) | (simp; omega)) _))
      · have hne := beq_no he
        have HNO : Hid (¬ ∃ S H L, IsT l S H L) := hidP (by rintro ⟨S, H', L', h⟩; exact he (HONE.out S H' L' h).2.2.2)
        clear he
        go_wp2_with fail
        refine bodyPost_ret (v := .tuple #[.agg #[.bool false, .int .i64 0, .int .i64 0], .bool false]) (by simp [results, Tryd.results16, go_sem, k0, k1, k2]) rfl ⟨Or.inr ⟨HNO.out, rfl⟩, ?_⟩
        repeat (first | with_reducible exact HB5.out | (with_reducible refine Below.setCell ?_ (by first | omega | (simp; done) | (simp; omega)) _) | (with_reducible refine Below.alloc ?_ (by first | omega | (simp; done) | (simp; omega)) _))
    · have k0 := (hb4'.cell (p := ⟨w.heap.size, 0, none⟩) (by show w.heap.size < _; omega)).trans k0
      have k1 := (hb4'.cell (p := ⟨w.heap.size, 1, none⟩) (by show w.heap.size < _; omega)).trans k1
      have k2 := (hb4'.cell (p := ⟨w.heap.size, 2, none⟩) (by show w.heap.size < _; omega)).trans k2
      have kf : ∀ o, w4.frozen? ⟨w.heap.size, o, none⟩ = false := fun o => (hb4'.frozen (p := ⟨w.heap.size, o, none⟩) (by show w.heap.size < _; omega)).trans (kf o)
      have j0 := (hb4'.cell (p := ⟨w.heap.size + 1, 0, none⟩) (by show w.heap.size + 1 < _; omega)).trans j0
      have j1 := (hb4'.cell (p := ⟨w.heap.size + 1, 1, none⟩) (by show w.heap.size + 1 < _; omega)).trans j1
      have j2 := (hb4'.cell (p := ⟨w.heap.size + 1, 2, none⟩) (by show w.heap.size + 1 < _; omega)).trans j2
      have jf : ∀ o, w4.frozen? ⟨w.heap.size + 1, o, none⟩ = false := fun o => (hb4'.frozen (p := ⟨w.heap.size + 1, o, none⟩) (by show w.heap.size + 1 < _; omega)).trans (jf o)
      have HB4 := hidP (HB3.out.trans (hb4'.mono HB3.out.size))
      have hX4 : w.heap.size + 2 ≤ w4.heap.size := by have := hb4'.size; omega
      have l0 : w.heap.size < w4.heap.size := by omega
      have l1 : w.heap.size + 1 < w4.heap.size := by omega
      have HNO : Hid (¬ ∃ S H L, IsT l S H L) := hidP (by
        rintro ⟨S, H', L', h⟩
        cases S
        · exact HN4.out (HN.out.trans (HI4.out H' L' h).1)
        · obtain ⟨g', e1, e2⟩ := (HI6.out H' L' h).2
          rw [hG] at e1
          cases e1)
      clear hb4' hG
      go_wp2_with fail
      refine bodyPost_ret (v := .tuple #[.agg #[.bool false, .int .i64 0, .int .i64 0], .bool false]) (by simp [results, Tryd.results16, go_sem, k0, k1, k2, l0]) rfl ⟨Or.inr ⟨HNO.out, rfl⟩, ?_⟩
      repeat (first | with_reducible exact HB4.out | (with_reducible refine Below.setCell ?_ (by first | omega | (simp; done) | (simp; omega)) _) | (with_reducible refine Below.alloc ?_ (by first | omega | (simp; done) | (simp; omega)) _))

end Go.Proofs.YtofnnpjadehgmaaDoor
