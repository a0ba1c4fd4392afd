/-
  The specification's DrawKeeps: the first Keep is right.
-/
import Derived.Test.YtlhddiikbfobjaaZE28
import Derived.Test.YtlhddiikbfobjaaZE1
namespace Go.Proofs.Ytlhddiikbfobjaa
open Go.ChangeShapes Go.WideShapes Go.ChangeAt Go.RowKit Go.Joins Go.Deep

theorem Bx.put8 {x : World} {p : Nat} {u0 u1 u2 u3 u4 u5 u6 u7 : Value} (h : Bx x p [u0, u1, u2, u3, u4, u5, u6, u7]) (v0 v1 v2 v3 v4 v5 v6 v7 : Value) : Bx (((((((((x).setCell ⟨p, 0, none⟩ (v0)).setCell ⟨p, 1, none⟩ (v1)).setCell ⟨p, 2, none⟩ (v2)).setCell ⟨p, 3, none⟩ (v3)).setCell ⟨p, 4, none⟩ (v4)).setCell ⟨p, 5, none⟩ (v5)).setCell ⟨p, 6, none⟩ (v6)).setCell ⟨p, 7, none⟩ (v7)) p [v0, v1, v2, v3, v4, v5, v6, v7] := ((((((((h.set 0 _ v0 rfl).set 1 _ v1 rfl).set 2 _ v2 rfl).set 3 _ v3 rfl).set 4 _ v4 rfl).set 5 _ v5 rfl).set 6 _ v6 rfl).set 7 _ v7 rfl)
theorem KR.low8 {X : World} {B kb b : Nat} {k : Kv} {ss : List Int} (h : KR X B kb k ss) (hb : b < B) (v0 v1 v2 v3 v4 v5 v6 v7 : Value) : KR (((((((((X).setCell ⟨b, 0, none⟩ (v0)).setCell ⟨b, 1, none⟩ (v1)).setCell ⟨b, 2, none⟩ (v2)).setCell ⟨b, 3, none⟩ (v3)).setCell ⟨b, 4, none⟩ (v4)).setCell ⟨b, 5, none⟩ (v5)).setCell ⟨b, 6, none⟩ (v6)).setCell ⟨b, 7, none⟩ (v7)) B kb k ss := ((((((((h.low hb 0 v0).low hb 1 v1).low hb 2 v2).low hb 3 v3).low hb 4 v4).low hb 5 v5).low hb 6 v6).low hb 7 v7)
theorem bel_set8 {B b : Nat} {w X : World} (h : Below B w X) (hb : B ≤ b) (v0 v1 v2 v3 v4 v5 v6 v7 : Value) : Below B w (((((((((X).setCell ⟨b, 0, none⟩ (v0)).setCell ⟨b, 1, none⟩ (v1)).setCell ⟨b, 2, none⟩ (v2)).setCell ⟨b, 3, none⟩ (v3)).setCell ⟨b, 4, none⟩ (v4)).setCell ⟨b, 5, none⟩ (v5)).setCell ⟨b, 6, none⟩ (v6)).setCell ⟨b, 7, none⟩ (v7)) := (Below.setCell (p := ⟨b, 7, none⟩) (Below.setCell (p := ⟨b, 6, none⟩) (Below.setCell (p := ⟨b, 5, none⟩) (Below.setCell (p := ⟨b, 4, none⟩) (Below.setCell (p := ⟨b, 3, none⟩) (Below.setCell (p := ⟨b, 2, none⟩) (Below.setCell (p := ⟨b, 1, none⟩) (Below.setCell (p := ⟨b, 0, none⟩) h hb v0) hb v1) hb v2) hb v3) hb v4) hb v5) hb v6) hb v7)

set_option maxHeartbeats 1000000 in
theorem l1Size_8 (a : Option Addr) (len cap : Nat) (w : World) (hl : len ≤ 1048576) :
    Calls Try.prog 23 #[.slice a len cap, .int .i64 8] w fun e w' => (∃ x : Int, 3 ≤ x ∧ x ≤ 8 ∧ e = .returned (.int .i64 x)) ∧ w = w' := by
  by_cases h : 3 + len / 12 > 8
  · have hd : (8 : Int) < 3 + (len : Int) / 12 := by omega
    go_enter Try.func23, Try.ntmps23
    go_wp2
    go_ret
    exact ⟨⟨8, by omega, by omega, rfl⟩, rfl⟩
  · have hd : ¬ (8 : Int) < 3 + (len : Int) / 12 := by omega
    go_enter Try.func23, Try.ntmps23
    go_wp2
    go_ret
    exact ⟨⟨3 + (len : Int) / 12, by omega, by omega, rfl⟩, rfl⟩
/-- What the two Keeps are. -/
def DkO (w w' : World) (e : Ending) : Prop := ∃ (k : Kv) (kb : Nat) (ss : List Int) (v : Value), e = .returned (.tuple #[k.v, v]) ∧ KpV v ∧ KvOk k ∧ KR w' w.heap.size kb k ss ∧ k.es.length ≤ 7 ∧ k.B ≤ 100

set_option maxRecDepth 10000 in
set_option maxHeartbeats 20000000 in
theorem drawKeeps_ok (a : Option Addr) (len cap : Nat) (w : World) (hB : Bytes w a len) (hl : len ≤ 1048576) :
    Calls Try.prog 6 #[.slice a len cap] w fun e w' => DkO w w' e ∧ Below w.heap.size w w' := by
  have A1 : Hid (Bytes ((w.alloc (.cells #[.int .i64 0, .int .i64 0, .int .i64 0, .int .i64 0, .slice none 0 0, .slice none 0 0, .slice none 0 0, .slice none 0 0] 29)).alloc (.cells #[.int .i64 0, .int .i64 0, .int .i64 0, .int .i64 0, .slice none 0 0, .slice none 0 0, .slice none 0 0, .slice none 0 0] 29)) a len ∧ Bx ((w.alloc (.cells #[.int .i64 0, .int .i64 0, .int .i64 0, .int .i64 0, .slice none 0 0, .slice none 0 0, .slice none 0 0, .slice none 0 0] 29)).alloc (.cells #[.int .i64 0, .int .i64 0, .int .i64 0, .int .i64 0, .slice none 0 0, .slice none 0 0, .slice none 0 0, .slice none 0 0] 29)) (w.heap.size) [.int .i64 0, .int .i64 0, .int .i64 0, .int .i64 0, .slice none 0 0, .slice none 0 0, .slice none 0 0, .slice none 0 0] ∧ Bx ((w.alloc (.cells #[.int .i64 0, .int .i64 0, .int .i64 0, .int .i64 0, .slice none 0 0, .slice none 0 0, .slice none 0 0, .slice none 0 0] 29)).alloc (.cells #[.int .i64 0, .int .i64 0, .int .i64 0, .int .i64 0, .slice none 0 0, .slice none 0 0, .slice none 0 0, .slice none 0 0] 29)) (w.heap.size + 1) [.int .i64 0, .int .i64 0, .int .i64 0, .int .i64 0, .slice none 0 0, .slice none 0 0, .slice none 0 0, .slice none 0 0] ∧ Below w.heap.size w ((w.alloc (.cells #[.int .i64 0, .int .i64 0, .int .i64 0, .int .i64 0, .slice none 0 0, .slice none 0 0, .slice none 0 0, .slice none 0 0] 29)).alloc (.cells #[.int .i64 0, .int .i64 0, .int .i64 0, .int .i64 0, .slice none 0 0, .slice none 0 0, .slice none 0 0, .slice none 0 0] 29)) ∧ ((w.alloc (.cells #[.int .i64 0, .int .i64 0, .int .i64 0, .int .i64 0, .slice none 0 0, .slice none 0 0, .slice none 0 0, .slice none 0 0] 29)).alloc (.cells #[.int .i64 0, .int .i64 0, .int .i64 0, .int .i64 0, .slice none 0 0, .slice none 0 0, .slice none 0 0, .slice none 0 0] 29)).heap.size = w.heap.size + 2) := by
    have u1 := alloc_below w (.cells #[.int .i64 0, .int .i64 0, .int .i64 0, .int .i64 0, .slice none 0 0, .slice none 0 0, .slice none 0 0, .slice none 0 0] 29)
    have u2 := alloc_below (w.alloc (.cells #[.int .i64 0, .int .i64 0, .int .i64 0, .int .i64 0, .slice none 0 0, .slice none 0 0, .slice none 0 0, .slice none 0 0] 29)) (.cells #[.int .i64 0, .int .i64 0, .int .i64 0, .int .i64 0, .slice none 0 0, .slice none 0 0, .slice none 0 0, .slice none 0 0] 29)
    have v1 := Bx.new w [.int .i64 0, .int .i64 0, .int .i64 0, .int .i64 0, .slice none 0 0, .slice none 0 0, .slice none 0 0, .slice none 0 0] 29
    have v2 := Bx.new (w.alloc (.cells #[.int .i64 0, .int .i64 0, .int .i64 0, .int .i64 0, .slice none 0 0, .slice none 0 0, .slice none 0 0, .slice none 0 0] 29)) [.int .i64 0, .int .i64 0, .int .i64 0, .int .i64 0, .slice none 0 0, .slice none 0 0, .slice none 0 0, .slice none 0 0] 29
    have s1 : (w.alloc (.cells #[.int .i64 0, .int .i64 0, .int .i64 0, .int .i64 0, .slice none 0 0, .slice none 0 0, .slice none 0 0, .slice none 0 0] 29)).heap.size = w.heap.size + 1 := by simp
    have u3 := u1.trans (u2.mono u1.size)
    rw [s1] at v2
    exact hidP ⟨fun j hj => by
      obtain ⟨p, o, v, ha, hp, cv, v0, v9⟩ := hB j hj
      exact ⟨p, o, v, ha, by simp; omega, (u3.cell hp).trans cv, v0, v9⟩, v1.later u2, v2, u3, by simp⟩
  clear hB
  go_enter Try.func6, Try.ntmps6
  go_wp2_with fail
  generalize (w.alloc (.cells #[.int .i64 0, .int .i64 0, .int .i64 0, .int .i64 0, .slice none 0 0, .slice none 0 0, .slice none 0 0, .slice none 0 0] 29)).alloc (.cells #[.int .i64 0, .int .i64 0, .int .i64 0, .int .i64 0, .slice none 0 0, .slice none 0 0, .slice none 0 0, .slice none 0 0] 29) = W1 at *
  refine (l1New_any a len cap _ A1.out.1 hl).mono ?_
  rintro e w2 ⟨rfl, hC2, hb2, hs2⟩
  have A2 := hidP (And.intro hC2 (And.intro (A1.out.2.1.later hb2) (And.intro (A1.out.2.2.1.later hb2) (And.intro (A1.out.2.2.2.1.trans (hb2.mono A1.out.2.2.2.1.size)) A1.out.2.2.2.2))))
  clear hC2 hb2 hs2 A1
  generalize W1.heap.size = c at *
  have HCQ := hidP (show c = w.heap.size + 2 from A2.out.2.2.2.2)
  go_wp2_with fail
  refine (l1Size_8 a len cap _ hl).mono ?_
  rintro e w3 ⟨⟨x, x3, x8, rfl⟩, rfl⟩
  go_wp2_with fail
  refine (l13Draw_ok c a len cap x (by have h9 := HCQ.out; omega) (by have h9 := HCQ.out; omega) _ A2.out.1).mono ?_
  rintro e w4 ⟨⟨k, kb, ss, rfl, hok, hkr, hkb, h7, h4, hg9, hh9, hT, hB⟩, hC4, hK4⟩
  have lt2 : c < w2.heap.size := A2.out.1.lt
  have A4 := hidP (And.intro hC4 (And.intro (A2.out.2.1.kp hK4 (by have h9 := HCQ.out; omega)) (And.intro (A2.out.2.2.1.kp hK4 (by have h9 := HCQ.out; omega)) (A2.out.2.2.2.1.trans (hK4.low.mono (by have h9 := HCQ.out; omega))))))
  have HN := hidP (NB.start hok hkr.hl h7 hB hT hg9 hh9 (by rw [hkr.hs]; exact h4))
  have HKR := hidP hkr
  have HOk := hidP (And.intro hok (And.intro h7 hB))
  clear hok hkr hkb h7 h4 hg9 hh9 hT hB hC4 hK4 A2
  obtain ⟨T, V, B, E, ga, gn, gc, ha, hn, hc, sa, sn, sc, la, ln, lc, ps, bs, es⟩ := k
  go_wp2_with fail
  have u5 := alloc_below w4 (.cells #[.int .i64 T, .int .i64 V, .int .i64 B, .int .i64 E, .slice ga gn gc, .slice ha hn hc, .slice sa sn sc, .slice la ln lc] 29)
  have v5 : Bx (w4.alloc (.cells #[.int .i64 T, .int .i64 V, .int .i64 B, .int .i64 E, .slice ga gn gc, .slice ha hn hc, .slice sa sn sc, .slice la ln lc] 29)) w4.heap.size [.int .i64 T, .int .i64 V, .int .i64 B, .int .i64 E, .slice ga gn gc, .slice ha hn hc, .slice sa sn sc, .slice la ln lc] := Bx.new w4 [.int .i64 T, .int .i64 V, .int .i64 B, .int .i64 E, .slice ga gn gc, .slice ha hn hc, .slice sa sn sc, .slice la ln lc] 29
  generalize w4.alloc (.cells #[.int .i64 T, .int .i64 V, .int .i64 B, .int .i64 E, .slice ga gn gc, .slice ha hn hc, .slice sa sn sc, .slice la ln lc] 29) = w5 at *
  have dr := u5.trans ((Below.refl w5.heap.size w5).drew.mono u5.size)
  have A5 := hidP (And.intro (A4.out.1.grew dr) (And.intro (A4.out.2.1.later dr) (And.intro (A4.out.2.2.1.later dr) (A4.out.2.2.2.trans (dr.mono A4.out.2.2.2.size)))))
  have V5 := hidP (v5.later (Below.refl w5.heap.size w5).drew)
  have HKd := hidP (HKR.out.bel dr)
  have l5 : c < w4.heap.size := A4.out.1.lt
  clear u5 v5 dr A4 HKR
  generalize w4.heap.size = p5 at *
  refine wp_region_held_drew (S := (fun W => Bx W p5 [.int .i64 T, .int .i64 V, .int .i64 B, .int .i64 E, .slice ga gn gc, .slice ha hn hc, .slice sa sn sc, .slice la ln lc])) (by kernel_rfl) V5.out (fun hHeld => ?_)
  generalize w5.drew = w5 at *
  refine wpAnyH_take (i := 0) (oi := ⟨some 12, _, _, _, _, _⟩) (v := ?_) rfl (by kernel_rfl) (by kernel_rfl) (by kernel_rfl) (fun _ _ _ h => h) (Or.inl ⟨by rfl, ?_⟩) (by assumption) ?_
  rotate_left
  · intro w hSw
    try dsimp only at hSw
    have s0 := hSw.cel 0 _ rfl
    have s1 := hSw.cel 1 _ rfl
    have s2 := hSw.cel 2 _ rfl
    have s3 := hSw.cel 3 _ rfl
    have s4 := hSw.cel 4 _ rfl
    have s5 := hSw.cel 5 _ rfl
    have s6 := hSw.cel 6 _ rfl
    have s7 := hSw.cel 7 _ rfl
    go_simp
    try with_reducible rfl
  simp only [pa]
  refine tk 1 13 rfl ?_
  simp only [pa]
  refine wpAnyH_take (i := 2) (oi := ⟨some 14, _, _, _, _, _⟩) (v := ?_) rfl (by kernel_rfl) (by kernel_rfl) (by kernel_rfl) (fun _ _ _ h => h) (Or.inl ⟨by rfl, ?_⟩) (by assumption) ?_
  rotate_left
  · intro w hSw
    try dsimp only at hSw
    have s0 := hSw.cel 0 _ rfl
    have s1 := hSw.cel 1 _ rfl
    have s2 := hSw.cel 2 _ rfl
    have s3 := hSw.cel 3 _ rfl
    have s4 := hSw.cel 4 _ rfl
    have s5 := hSw.cel 5 _ rfl
    have s6 := hSw.cel 6 _ rfl
    have s7 := hSw.cel 7 _ rfl
    go_simp
    try with_reducible rfl
  simp only [pa]
  refine wpAnyH_ready (rs := [3]) (by kernel_rfl) (by simp) ?_
  refine AllReadyH.cons rfl (fun K hK => ?_) AllReadyH.nil
  go_simp
  go_wp2_with (first | (go_at_call 24; refine (l13Next_any c a len cap ⟨T, V, B, E, ga, gn, gc, ha, hn, hc, sa, sn, sc, la, ln, lc, ps, bs, es⟩ ss _ A5.out.1 HKd.out.kw.kc HN.out).mono ?_; rintro e w6 ⟨⟨v, rfl, ⟨⟨T6, V9, B6, E6, ga6, gn6, gc6, ha6, hn6, hc6, sa6, sn6, sc6, la6, ln6, lc6, ps6, bs6, es6⟩, rfl⟩⟩, hC6, hK6⟩; have A6 := hidP (And.intro (A5.out.2.1.kp hK6 (by have h9 := HCQ.out; omega)) (And.intro (A5.out.2.2.1.kp hK6 (by have h9 := HCQ.out; omega)) (A5.out.2.2.2.trans (hK6.low.mono (by have h9 := HCQ.out; omega))))); have V6 := hidP (V5.out.kp hK6 (by have h9 := HCQ.out; omega)); have HK6 := hidP (HKd.out.kp hK6 lt2); clear hC6 hK6))
  refine hK.out _ _ ?_ (fun hHeld => ?_)
  · try dsimp only
    exact V6.out
  clear hK K
  refine wpAnyH_ready (rs := [4]) (by kernel_rfl) (by simp) ?_
  refine AllReadyH.cons rfl (fun K hK => ?_) AllReadyH.nil
  have r0 := A6.out.1.cel 0 _ rfl
  have r1 := A6.out.1.cel 1 _ rfl
  have r2 := A6.out.1.cel 2 _ rfl
  have r3 := A6.out.1.cel 3 _ rfl
  have r4 := A6.out.1.cel 4 _ rfl
  have r5 := A6.out.1.cel 5 _ rfl
  have r6 := A6.out.1.cel 6 _ rfl
  have r7 := A6.out.1.cel 7 _ rfl
  have rF := A6.out.1.frz
  have rL := A6.out.1.lt
  go_simp
  have A7 := hidP (And.intro (A6.out.1.put8 (.int .i64 T) (.int .i64 V) (.int .i64 B) (.int .i64 E) (.slice ga gn gc) (.slice ha hn hc) (.slice sa sn sc) (.slice la ln lc)) (And.intro (A6.out.2.1.far8 (b := w.heap.size) (by have h9 := HCQ.out; omega) (.int .i64 T) (.int .i64 V) (.int .i64 B) (.int .i64 E) (.slice ga gn gc) (.slice ha hn hc) (.slice sa sn sc) (.slice la ln lc)) (bel_set8 (b := w.heap.size) A6.out.2.2 (Nat.le_refl _) (.int .i64 T) (.int .i64 V) (.int .i64 B) (.int .i64 E) (.slice ga gn gc) (.slice ha hn hc) (.slice sa sn sc) (.slice la ln lc))))
  have HK7 := hidP (HK6.out.low8 (b := w.heap.size) (by have h9 := HCQ.out; omega) (.int .i64 T) (.int .i64 V) (.int .i64 B) (.int .i64 E) (.slice ga gn gc) (.slice ha hn hc) (.slice sa sn sc) (.slice la ln lc))
  have V7 := hidP (V6.out.far8 (b := w.heap.size) (by have h9 := HCQ.out; omega) (.int .i64 T) (.int .i64 V) (.int .i64 B) (.int .i64 E) (.slice ga gn gc) (.slice ha hn hc) (.slice sa sn sc) (.slice la ln lc))
  clear r0 r1 r2 r3 r4 r5 r6 r7 rF rL A6 HK6 V6
  generalize ((((((((w6).setCell ⟨w.heap.size, 0, none⟩ (.int .i64 T)).setCell ⟨w.heap.size, 1, none⟩ (.int .i64 V)).setCell ⟨w.heap.size, 2, none⟩ (.int .i64 B)).setCell ⟨w.heap.size, 3, none⟩ (.int .i64 E)).setCell ⟨w.heap.size, 4, none⟩ (.slice ga gn gc)).setCell ⟨w.heap.size, 5, none⟩ (.slice ha hn hc)).setCell ⟨w.heap.size, 6, none⟩ (.slice sa sn sc)).setCell ⟨w.heap.size, 7, none⟩ (.slice la ln lc) = w7 at *
  refine hK.out _ _ ?_ (fun hHeld => ?_)
  · try dsimp only
    exact V7.out
  clear hK K
  refine wpAnyH_ready (rs := [5]) (by kernel_rfl) (by simp) ?_
  refine AllReadyH.cons rfl (fun K hK => ?_) AllReadyH.nil
  have r0 := A7.out.2.1.cel 0 _ rfl
  have r1 := A7.out.2.1.cel 1 _ rfl
  have r2 := A7.out.2.1.cel 2 _ rfl
  have r3 := A7.out.2.1.cel 3 _ rfl
  have r4 := A7.out.2.1.cel 4 _ rfl
  have r5 := A7.out.2.1.cel 5 _ rfl
  have r6 := A7.out.2.1.cel 6 _ rfl
  have r7 := A7.out.2.1.cel 7 _ rfl
  have rF := A7.out.2.1.frz
  have rL := A7.out.2.1.lt
  go_simp
  have A8 := hidP (And.intro (A7.out.1.far8 (b := w.heap.size + 1) (by have h9 := HCQ.out; omega) (.int .i64 T6) (.int .i64 V9) (.int .i64 B6) (.int .i64 E6) (.slice ga6 gn6 gc6) (.slice ha6 hn6 hc6) (.slice sa6 sn6 sc6) (.slice la6 ln6 lc6)) (And.intro (A7.out.2.1.put8 (.int .i64 T6) (.int .i64 V9) (.int .i64 B6) (.int .i64 E6) (.slice ga6 gn6 gc6) (.slice ha6 hn6 hc6) (.slice sa6 sn6 sc6) (.slice la6 ln6 lc6)) (bel_set8 (b := w.heap.size + 1) A7.out.2.2 (Nat.le_succ _) (.int .i64 T6) (.int .i64 V9) (.int .i64 B6) (.int .i64 E6) (.slice ga6 gn6 gc6) (.slice ha6 hn6 hc6) (.slice sa6 sn6 sc6) (.slice la6 ln6 lc6))))
  have HK8 := hidP (HK7.out.low8 (b := w.heap.size + 1) (by have h9 := HCQ.out; omega) (.int .i64 T6) (.int .i64 V9) (.int .i64 B6) (.int .i64 E6) (.slice ga6 gn6 gc6) (.slice ha6 hn6 hc6) (.slice sa6 sn6 sc6) (.slice la6 ln6 lc6))
  have V8 := hidP (V7.out.far8 (b := w.heap.size + 1) (by have h9 := HCQ.out; omega) (.int .i64 T6) (.int .i64 V9) (.int .i64 B6) (.int .i64 E6) (.slice ga6 gn6 gc6) (.slice ha6 hn6 hc6) (.slice sa6 sn6 sc6) (.slice la6 ln6 lc6))
  clear r0 r1 r2 r3 r4 r5 r6 r7 rF rL A7 HK7 V7
  generalize ((((((((w7).setCell ⟨w.heap.size + 1, 0, none⟩ (.int .i64 T6)).setCell ⟨w.heap.size + 1, 1, none⟩ (.int .i64 V9)).setCell ⟨w.heap.size + 1, 2, none⟩ (.int .i64 B6)).setCell ⟨w.heap.size + 1, 3, none⟩ (.int .i64 E6)).setCell ⟨w.heap.size + 1, 4, none⟩ (.slice ga6 gn6 gc6)).setCell ⟨w.heap.size + 1, 5, none⟩ (.slice ha6 hn6 hc6)).setCell ⟨w.heap.size + 1, 6, none⟩ (.slice sa6 sn6 sc6)).setCell ⟨w.heap.size + 1, 7, none⟩ (.slice la6 ln6 lc6) = w8 at *
  refine hK.out _ _ ?_ (fun hHeld => ?_)
  · try dsimp only
    exact V8.out
  clear hK K
  refine wpAnyH_done (by kernel_rfl) ?_ _
  clear hHeld
  have r0 := A8.out.1.cel 0 _ rfl
  have r1 := A8.out.1.cel 1 _ rfl
  have r2 := A8.out.1.cel 2 _ rfl
  have r3 := A8.out.1.cel 3 _ rfl
  have r4 := A8.out.1.cel 4 _ rfl
  have r5 := A8.out.1.cel 5 _ rfl
  have r6 := A8.out.1.cel 6 _ rfl
  have r7 := A8.out.1.cel 7 _ rfl
  have q0 := A8.out.2.1.cel 0 _ rfl
  have q1 := A8.out.2.1.cel 1 _ rfl
  have q2 := A8.out.2.1.cel 2 _ rfl
  have q3 := A8.out.2.1.cel 3 _ rfl
  have q4 := A8.out.2.1.cel 4 _ rfl
  have q5 := A8.out.2.1.cel 5 _ rfl
  have q6 := A8.out.2.1.cel 6 _ rfl
  have q7 := A8.out.2.1.cel 7 _ rfl
  go_wp2_with fail
  refine bodyPost_ret (v := .tuple #[Kv.v ⟨T, V, B, E, ga, gn, gc, ha, hn, hc, sa, sn, sc, la, ln, lc, ps, bs, es⟩, .agg #[.int .i64 T6, .int .i64 V9, .int .i64 B6, .int .i64 E6, .slice ga6 gn6 gc6, .slice ha6 hn6 hc6, .slice sa6 sn6 sc6, .slice la6 ln6 lc6]]) (by simp [results, Try.results6, go_sem, r0, q0, r1, q1, r2, q2, r3, q3, r4, q4, r5, q5, r6, q6, r7, q7]) rfl ⟨⟨_, kb, ss, _, rfl, ⟨⟨T6, V9, B6, E6, ga6, gn6, gc6, ha6, hn6, hc6, sa6, sn6, sc6, la6, ln6, lc6, ps6, bs6, es6⟩, rfl⟩, HOk.out.1, HK8.out.mono (by have h9 := HCQ.out; omega), HOk.out.2.1, HOk.out.2.2⟩, A8.out.2.2⟩

end Go.Proofs.Ytlhddiikbfobjaa
