/-
  The program's ParseAddr: of the text of a right address that address and true; of every other text the zero one and false. Nothing old in memory turns.
-/
import Derived.Test.YtofnnpjadehgmaaDoorDR128
import Derived.Test.YtofnnpjadehgmaaDoorDPm
import Derived.Test.YtofnnpjadehgmaaDoorDNrm
namespace Go.Proofs.YtofnnpjadehgmaaDoor
open Go.RowKit

/-- The text of an address that is right. -/
def tA (S : Bool) (H L : Int) : List UInt8 := if S = true then txt8 (grp H L) else txt4 L
/-- s is the text of this right address. -/
def IsT (l : List UInt8) (S : Bool) (H L : Int) : Prop := okB S H L = true ∧ (-9223372036854775808 ≤ H ∧ H ≤ 9223372036854775807) ∧ (-9223372036854775808 ≤ L ∧ L ≤ 9223372036854775807) ∧ l = tA S H L

theorem ok_four {H L : Int} (h : okB false H L = true) : H = 0 ∧ 0 ≤ L ∧ L ≤ 4294967295 := by
  simp [okB] at h; exact h
theorem hi_back (H L : Int) (hH : -9223372036854775808 ≤ H ∧ H ≤ 9223372036854775807) (g : Nat → Int) (hg : ∀ j, j < 8 → g j = grp H L j) : hiOf g = H := by
  rw [hiOf_congr g (grp H L) hg]
  simp only [hiOf, fh, fold, grp, IntKind.wrap_i64, IntKind.wrap_u64]
  omega
theorem lo_back (H L : Int) (hL : -9223372036854775808 ≤ L ∧ L ≤ 9223372036854775807) (g : Nat → Int) (hg : ∀ j, j < 8 → g j = grp H L j) : loOf g = L := by
  rw [loOf_congr g (grp H L) hg]
  simp only [loOf, fl, fold, grp, IntKind.wrap_i64, IntKind.wrap_u64]
  omega
theorem isT_32 {l : List UInt8} {H L : Int} (h : IsT l false H L) : Is32 ⟨l.toArray⟩ (L / 16777216 % 256) (L / 65536 % 256) (L / 256 % 256) (L % 256) := by
  obtain ⟨_, _, _, ht⟩ := h
  unfold Is32
  rw [show (⟨l.toArray⟩ : ByteArray).data.toList = l from rfl, ht]
  refine ⟨?_, by omega, by omega, by omega, by omega⟩
  show rn 46 10 255 (txt4 L) [] (-1) = _
  exact rn_txt4 L
theorem isT_no32 {l : List UInt8} {H L : Int} (h : IsT l true H L) (a b c d : Int) : ¬ Is32 ⟨l.toArray⟩ a b c d := by
  obtain ⟨_, _, _, ht⟩ := h
  rintro ⟨h1, _⟩
  rw [show (⟨l.toArray⟩ : ByteArray).data.toList = l from rfl, ht] at h1
  have := rn_colon (txt8 (grp H L)) [] (-1) (colon_txt8 _)
  rw [show tA true H L = txt8 (grp H L) from rfl, this] at h1
  cases h1
theorem isT_128 {l : List UInt8} {H L : Int} (h : IsT l true H L) : ∃ g, p128 l = some g ∧ ∀ j, j < 8 → g j = grp H L j := by
  rw [h.2.2.2]
  exact p128_txt8 (grp H L) (grp_bd H L)
theorem v_of (L : Int) (h0 : 0 ≤ L) (h1 : L ≤ 4294967295) : ((L / 16777216 % 256 * 256 + L / 65536 % 256) * 256 + L / 256 % 256) * 256 + L % 256 = L := by omega
/-- A text is one address's. -/
theorem isT_one {l : List UInt8} {S S' : Bool} {H H' L L' : Int} (h : IsT l S H L) (h' : IsT l S' H' L') : S = S' ∧ H = H' ∧ L = L' := by
  cases S <;> cases S'
  · obtain ⟨e1, _, _⟩ := isT_32 h
    obtain ⟨e2, _, _⟩ := isT_32 h'
    rw [e1] at e2
    simp at e2
    obtain ⟨a, b, c⟩ := ok_four h.1
    obtain ⟨a', b', c'⟩ := ok_four h'.1
    exact ⟨rfl, by omega, by omega⟩
  · exact absurd (isT_32 h) (isT_no32 h' _ _ _ _)
  · exact absurd (isT_32 h') (isT_no32 h _ _ _ _)
  · obtain ⟨g, e1, k1⟩ := isT_128 h
    obtain ⟨g', e2, k2⟩ := isT_128 h'
    rw [e1] at e2
    cases e2
    exact ⟨rfl, (hi_back H L h.2.1 g k1).symm.trans (hi_back H' L' h'.2.1 g k2), (lo_back H L h.2.2.1 g k1).symm.trans (lo_back H' L' h'.2.2.1 g k2)⟩
theorem nrm_ok {S : Bool} {H L : Int} (h : okB S H L = true) : Nrm S H L S H L := Or.inl ⟨h, rfl, rfl, rfl⟩
theorem wrap_bd (x : Int) : -9223372036854775808 ≤ IntKind.i64.wrap x ∧ IntKind.i64.wrap x ≤ 9223372036854775807 := by rw [IntKind.wrap_i64]; omega
theorem beq_no {l m : List UInt8} (h : ¬ l = m) : (m == l) = false := by
  rw [beq_eq_false_iff_ne]; exact fun e => h e.symm

set_option maxHeartbeats 4000000 in
theorem iParse_any (l : List UInt8) (w : World) (ht : Tabs w) :
    Calls Tryd.prog 10 #[.string ⟨l.toArray⟩] w fun e w' => ((∃ S H L, IsT l S H L ∧ e = .returned (.tuple #[.agg #[.bool S, .int .i64 H, .int .i64 L], .bool true])) ∨ ((¬ ∃ S H L, IsT l S H L) ∧ e = .returned (.tuple #[.agg #[.bool false, .int .i64 0, .int .i64 0], .bool false]))) ∧ Below w.heap.size w w' := by
  have HT := hid' ht
  clear ht
  go_enter Tryd.func10, Tryd.ntmps10
  go_wp2_with fail
  refine (read32 ⟨l.toArray⟩ _).mono ?_
  rintro e w1 ⟨⟨a, b, c, d, h32, rfl⟩ | ⟨h32, rfl⟩, hb⟩
  · have H32 := hid' h32
    obtain ⟨hrn, ⟨a0, a1⟩, ⟨b0, b1⟩, ⟨c0, c1⟩, ⟨d0, d1⟩⟩ := h32
    obtain ⟨v, hv⟩ : ∃ v, v = ((a * 256 + b) * 256 + c) * 256 + d := ⟨_, rfl⟩
    rw [← hv]
    have v0 : 0 ≤ v := by omega
    have v1 : v ≤ 4294967295 := by omega
    have HONE : Hid (∀ S H L, IsT l S H L → IsT l false 0 v) := hid' (fun S H L h => by
      cases S
      · obtain ⟨e1, _⟩ := isT_32 h
        rw [hrn] at e1
        simp at e1
        obtain ⟨x0, x1, x2⟩ := ok_four h.1
        have : L = v := by omega
        subst this
        subst x0
        exact h
      · exact absurd H32.out (isT_no32 h _ _ _ _))
    have HA := hid' (fun (W : World) (h : Tabs W) => iText_four false 0 v 0 v (nrm_ok (okB_yes v v0 v1)) v0 v1 W h)
    have z0 : w.heap.size < w1.heap.size := by have := hb.size; simp at this; omega
    obtain ⟨hc, hf⟩ := olds (n := w.heap.size + 1) (hb.mono (by simp))
    have g1 : Below w.heap.size w w1 := ((Below.refl _ w).alloc (Nat.le_refl _) _).trans (hb.mono (by simp))
    clear hv hrn
    go_wp2_with fail
    refine (HA.out _ (HT.out.below (g1.alloc (by omega) _))).mono ?_
    rintro e w2 ⟨rfl, hb2⟩
    obtain ⟨hc2, hf2⟩ := olds (n := w1.heap.size + 1) (hb2.mono (by simp))
    obtain ⟨hd2, _⟩ := olds (n := w.heap.size + 1) (hb2.mono (by simp; omega))
    have z1 : w1.heap.size < w2.heap.size := by have := hb2.size; simp at this; omega
    have z2 : w.heap.size < w2.heap.size := by omega
    have g2 : Below w.heap.size w w2 := (g1.alloc (by omega) _).trans (hb2.mono (by simp; omega))
    by_cases he : l = txt4 v
    · have HIS : Hid (IsT l false 0 v) := hid' ⟨okB_yes v v0 v1, by omega, by omega, he⟩
      subst he
      go_wp2_with fail
      refine bodyPost_ret (v := .tuple #[.agg #[.bool false, .int .i64 0, .int .i64 v], .bool true]) (by simp [results, Tryd.results10, go_sem, hc, hd2, z0]) rfl ⟨Or.inl ⟨false, 0, v, HIS.out, rfl⟩, ?_⟩
      repeat (first | with_reducible exact g2 | (with_reducible refine Below.setCell ?_ (by first | omega | (simp; done) | (simp; omega)) _) | (with_reducible refine Below.alloc ?_ (by first | omega | (simp; done) | (simp; omega)) _))
    · have hne := beq_no he
      have HNO : Hid (¬ ∃ S H L, IsT l S H L) := hid' (by rintro ⟨S, H, L, h⟩; exact he (HONE.out S H L h).2.2.2)
      clear he
      go_wp2_with fail
      refine bodyPost_ret (v := .tuple #[.agg #[.bool false, .int .i64 0, .int .i64 0], .bool false]) (by simp [results, Tryd.results10, go_sem, hc, hd2, z0]) rfl ⟨Or.inr ⟨HNO.out, rfl⟩, ?_⟩
      repeat (first | with_reducible exact g2 | (with_reducible refine Below.setCell ?_ (by first | omega | (simp; done) | (simp; omega)) _) | (with_reducible refine Below.alloc ?_ (by first | omega | (simp; done) | (simp; omega)) _))
  · have z0 : w.heap.size < w1.heap.size := by have := hb.size; simp at this; omega
    obtain ⟨hc, hf⟩ := olds (n := w.heap.size + 1) (hb.mono (by simp))
    have g1 : Below w.heap.size w w1 := ((Below.refl _ w).alloc (Nat.le_refl _) _).trans (hb.mono (by simp))
    have H6 : Hid (∀ H L, ¬ IsT l false H L) := hid' (fun H L h => h32 ⟨_, _, _, _, isT_32 h⟩)
    clear h32
    go_wp2_with fail
    refine (read128 ⟨l.toArray⟩ _).mono ?_
    rintro e w2 ⟨⟨g, hp, hg, rfl⟩ | ⟨hp, rfl⟩, hb2⟩
    · obtain ⟨hc2, hf2⟩ := olds (n := w1.heap.size + 1) (hb2.mono (by simp))
      obtain ⟨hd2, _⟩ := olds (n := w.heap.size + 1) (hb2.mono (by simp; omega))
      have z1 : w1.heap.size < w2.heap.size := by have := hb2.size; simp at this; omega
      have z2 : w.heap.size < w2.heap.size := by omega
      have g2 : Below w.heap.size w w2 := (g1.alloc (by omega) _).trans (hb2.mono (by simp; omega))
      obtain ⟨H, hH⟩ : ∃ H, H = hiOf g := ⟨_, rfl⟩
      obtain ⟨L, hL⟩ : ∃ L, L = loOf g := ⟨_, rfl⟩
      rw [← hH, ← hL]
      have HONE : Hid (∀ S H' L', IsT l S H' L' → IsT l true H L) := hid' (fun S H' L' h => by
        cases S
        · exact absurd h (H6.out _ _)
        · obtain ⟨g', e1, e2⟩ := isT_128 h
          rw [show (⟨l.toArray⟩ : ByteArray).data.toList = l from rfl, e1] at hp
          cases hp
          rw [hH, hL, hi_back H' L' h.2.1 g e2, lo_back H' L' h.2.2.1 g e2]
          exact h)
      have hHb : -9223372036854775808 ≤ H ∧ H ≤ 9223372036854775807 := by rw [hH]; exact wrap_bd _
      have hLb : -9223372036854775808 ≤ L ∧ L ≤ 9223372036854775807 := by rw [hL]; exact wrap_bd _
      have HBD := hid' (And.intro hHb hLb)
      have HA := hid' (fun (W : World) (h : Tabs W) => iText_six true H L H L (nrm_ok (okB_t H L)) W h)
      clear hp hg hH hL hHb hLb
      go_wp2_with fail
      have b3 : Below w.heap.size w (((w2.setCell ⟨w1.heap.size, 0, none⟩ (.bool true)).setCell ⟨w1.heap.size, 1, none⟩ (.int .i64 H)).setCell ⟨w1.heap.size, 2, none⟩ (.int .i64 L)) := ((g2.setCell (by show w.heap.size ≤ w1.heap.size; omega) _).setCell (by show w.heap.size ≤ w1.heap.size; omega) _).setCell (by show w.heap.size ≤ w1.heap.size; omega) _
      refine (HA.out _ (HT.out.below b3)).mono ?_
      rintro e w3 ⟨rfl, hb3⟩
      obtain ⟨hc3, hf3⟩ := olds (n := w1.heap.size + 1) (hb3.mono (by simp; omega))
      obtain ⟨hd3, _⟩ := olds (n := w.heap.size + 1) (hb3.mono (by simp; omega))
      have z3 : w1.heap.size < w3.heap.size := by have := hb3.size; simp at this; omega
      have z4 : w.heap.size < w3.heap.size := by omega
      have g3 : Below w.heap.size w w3 := b3.trans (hb3.mono (by simp; omega))
      clear b3
      by_cases he : l = txt8 (grp H L)
      · have HIS : Hid (IsT l true H L) := hid' ⟨okB_t H L, HBD.out.1, HBD.out.2, he⟩
        subst he
        go_wp2_with fail
        refine bodyPost_ret (v := .tuple #[.agg #[.bool true, .int .i64 H, .int .i64 L], .bool true]) (by simp [results, Tryd.results10, go_sem, hc, hd2, hd3, z0]) rfl ⟨Or.inl ⟨true, H, L, HIS.out, rfl⟩, ?_⟩
        repeat (first | with_reducible exact g3 | (with_reducible refine Below.setCell ?_ (by first | omega | (simp; done) | (simp; omega)) _) | (with_reducible refine Below.alloc ?_ (by first | omega | (simp; done) | (simp; omega)) _))
      · have hne := beq_no he
        have HNO : Hid (¬ ∃ S H L, IsT l S H L) := hid' (by rintro ⟨S, H', L', h⟩; exact he (HONE.out S H' L' h).2.2.2)
        clear he
        go_wp2_with fail
        refine bodyPost_ret (v := .tuple #[.agg #[.bool false, .int .i64 0, .int .i64 0], .bool false]) (by simp [results, Tryd.results10, go_sem, hc, hd2, hd3, z0]) rfl ⟨Or.inr ⟨HNO.out, rfl⟩, ?_⟩
        repeat (first | with_reducible exact g3 | (with_reducible refine Below.setCell ?_ (by first | omega | (simp; done) | (simp; omega)) _) | (with_reducible refine Below.alloc ?_ (by first | omega | (simp; done) | (simp; omega)) _))
    · obtain ⟨hc2, hf2⟩ := olds (n := w1.heap.size + 1) (hb2.mono (by simp))
      obtain ⟨hd2, _⟩ := olds (n := w.heap.size + 1) (hb2.mono (by simp; omega))
      have z1 : w1.heap.size < w2.heap.size := by have := hb2.size; simp at this; omega
      have z2 : w.heap.size < w2.heap.size := by omega
      have g2 : Below w.heap.size w w2 := (g1.alloc (by omega) _).trans (hb2.mono (by simp; omega))
      have HNO : Hid (¬ ∃ S H L, IsT l S H L) := hid' (by
        rintro ⟨S, H', L', h⟩
        cases S
        · exact H6.out _ _ h
        · obtain ⟨g', e1, e2⟩ := isT_128 h
          rw [show (⟨l.toArray⟩ : ByteArray).data.toList = l from rfl, e1] at hp
          cases hp)
      clear hp
      go_wp2_with fail
      refine bodyPost_ret (v := .tuple #[.agg #[.bool false, .int .i64 0, .int .i64 0], .bool false]) (by simp [results, Tryd.results10, go_sem, hc, hd2, z0]) rfl ⟨Or.inr ⟨HNO.out, rfl⟩, ?_⟩
      repeat (first | with_reducible exact g2 | (with_reducible refine Below.setCell ?_ (by first | omega | (simp; done) | (simp; omega)) _) | (with_reducible refine Below.alloc ?_ (by first | omega | (simp; done) | (simp; omega)) _))

end Go.Proofs.YtofnnpjadehgmaaDoor
