/-
  The program's partsFor: of what leftOf hands out those that have room for so many bits.
-/
import Derived.Test.YtdbcdichmmcnbaaGreatZK29
import Derived.Test.YtdbcdichmmcnbaaGreatZK3
namespace Go.Proofs.YtdbcdichmmcnbaaGreat
open Go.RowKit

attribute [local go_sem] Oper.semAt_some

def roomP (b : Int) (t : Sp) : Bool := decide ((wd t.s : Int) - t.n ≤ b)
def partL (s : Bool) (b : Int) (ys : List Sp) : List Sp := if (wd s : Int) < b then [] else ys.filter (roomP b)

/-- The program's partsFor, of p, a row and so many bits, hands out ys. -/
def PartGives (p : Pf) (a : Option Addr) (n cap : Nat) (bits : Int) (w0 : World) (ys : List Sp) : Prop := ∀ (w : World) (Bb Bp Bl : Nat), Below w0.heap.size w0 w → w.cell? ⟨Bb, 0, none⟩ = some (.int .i64 bits) → Box4 w Bp p → w.cell? ⟨Bl, 0, none⟩ = some (.slice a n cap) → w0.heap.size ≤ Bb → Bb < w.heap.size → Bp < w.heap.size → Bl < w.heap.size →
  Iter Tryz.prog 120 #[.pointer (some ⟨Bb, 0, none⟩), .pointer (some ⟨Bp, 0, none⟩), .pointer (some ⟨Bl, 0, none⟩)] encP ys (fun k => k < w0.heap.size ∨ k = Bb ∨ k = Bp ∨ k = Bl) w

set_option maxHeartbeats 1000000 in
theorem partsFor_any (p : Pf) (a : Option Addr) (n cap : Nat) (bits : Int) (w : World) :
    Calls Tryz.prog 86 #[.agg #[.bool p.s, .int .i64 p.H.toInt, .int .i64 p.L.toInt, .int .i64 p.b], .slice a n cap, .int .i64 bits] w fun e w' => e = .returned (.func (.func 120) #[] #[.pointer (some ⟨w.heap.size + 2, 0, none⟩), .pointer (some ⟨w.heap.size, 0, none⟩), .pointer (some ⟨w.heap.size + 1, 0, none⟩)]) ∧ w' = ((w.alloc (.cells #[.bool p.s, .int .i64 p.H.toInt, .int .i64 p.L.toInt, .int .i64 p.b] 31)).alloc (.cells #[.slice a n cap] 78)).alloc (.cells #[.int .i64 bits] 3) := by
  go_enter Tryz.func86, Tryz.ntmps86
  go_wp2
  go_ret
  exact ⟨rfl, rfl⟩

theorem filter_pre {α : Type} (f : α → Bool) {p xs : List α} (h : p <+: xs) : p.filter f <+: xs.filter f := by
  obtain ⟨t, rfl⟩ := h
  rw [List.filter_append]; exact List.prefix_append _ _

theorem cell_new (W : World) (v : Value) (t : TypeId) : (W.alloc (.cells #[v] t)).cell? ⟨W.heap.size, 0, none⟩ = some v := by
  have h := World.alloc_heap_new W (.cells #[v] t)
  unfold World.cell?
  rw [show (⟨W.heap.size, 0, none⟩ : Addr).block = W.heap.size from rfl, h]
  rfl

theorem cell_blk {A B : World} {p : Addr} (h : B.heap[p.block]? = A.heap[p.block]?) : B.cell? p = A.cell? p := World.cell?_of_block (w := A) h

/-- Between two rounds of the inner loop. -/
def ptJ (J : Bool → List Sp → (Nat → Prop) → World → Prop) (bits : Int) (W1 : World) (By Bb : Nat) (b : Bool) (pre : List Sp) (M1 : Nat → Prop) (V : World) : Prop :=
  ∃ M, (∀ k, M1 k ↔ (M k ∨ k = By ∨ k = Bb)) ∧ ¬ M By ∧ ¬ M Bb ∧ V.heap[By]? = W1.heap[By]? ∧ V.heap[Bb]? = W1.heap[Bb]? ∧ W1.heap.size ≤ V.heap.size ∧ J b (pre.filter (roomP bits)) M V

theorem pt_abd {J : Bool → List Sp → (Nat → Prop) → World → Prop} (hA : Abd J) {bits : Int} {W1 : World} {By Bb : Nat} (hy : By < W1.heap.size) (hb : Bb < W1.heap.size) {b : Bool} {pre : List Sp} {M1 : Nat → Prop} {A B : World}
    (h : ptJ J bits W1 By Bb b pre M1 A) (hk : Kpt M1 A B) : ptJ J bits W1 By Bb b pre M1 B := by
  obtain ⟨M, hM, n1, n2, e1, e2, hs, hj⟩ := h
  exact ⟨M, hM, n1, n2, (hk.block By (by omega) ((hM By).2 (Or.inr (Or.inl rfl)))).trans e1, (hk.block Bb (by omega) ((hM Bb).2 (Or.inr (Or.inr rfl)))).trans e2, Nat.le_trans hs hk.size, hA _ _ _ _ _ hj (hk.mono fun k h => (hM k).2 (Or.inl h))⟩

theorem pt_end {J : Bool → List Sp → (Nat → Prop) → World → Prop} (hA : Abd J) {bits : Int} {W W1 W3 V : World} {Bb : Nat} {b : Bool} {pre all xs : List Sp} {M M1 : Nat → Prop} (hW : Below W.heap.size W W1) (hW3 : Below W.heap.size W W3) (hbS : Bb < W.heap.size)
    (hp : ptJ J bits W1 W.heap.size Bb b pre M1 V) (hg : Grw (fun k => M k ∨ k = W.heap.size ∨ k = Bb) M1 W3 V) (D : Nat) (hD : W3.heap.size ≤ D) (hMD : ¬ M1 D) (ht : b = true → pre.filter (roomP bits) = xs) (hf : b = false → pre.filter (roomP bits) <+: all) :
    Ends J all xs M W (V.putObj D (.deferred none)) b := by
  obtain ⟨M', hM, n1, n2, e1, e2, hs, hj⟩ := hp
  have hz := hW3.size
  refine ⟨pre.filter (roomP bits), M', hA _ _ _ _ _ hj ((kpt_put V D _).mono fun k hk e => hMD ((hM D).2 (Or.inl (e ▸ hk)))), ⟨⟨hg.kept.os.trans hW3.os, hg.kept.tape.trans hW3.tape, hg.kept.output.trans hW3.output, by have := hg.kept.size; rw [World.putObj_size]; omega, fun k hk hn => ?_⟩, fun k hk hl => ?_, fun k hk => ?_⟩, ht, hf⟩
  · refine (World.putObj_heap_other (by omega)).trans ?_
    by_cases e : k = Bb
    · rw [e]; exact e2.trans (hW.block Bb hbS)
    · refine (hg.kept.block k (by omega) ?_).trans (hW3.block k hk)
      rintro (h | h | h)
      · exact hn h
      · omega
      · exact e h
  · rcases hg.old k ((hM k).2 (Or.inl hk)) (by omega) with h | h | h
    · exact h
    · omega
    · exact absurd (h ▸ hk) n2
  · rw [World.putObj_size]; exact hg.fit k ((hM k).2 (Or.inl hk))

theorem pt_next {J : Bool → List Sp → (Nat → Prop) → World → Prop} {bits : Int} {W1 V2 V3 : World} {By Bb : Nat} (hy : By < W1.heap.size) (hb : Bb < W1.heap.size) {b : Bool} {pre : List Sp} {x : Sp} {M1 M2 M3 : Nat → Prop}
    (hM : ∀ k, M1 k ↔ (M2 k ∨ k = By ∨ k = Bb)) (m1 : ¬ M2 By) (m2 : ¬ M2 Bb) (f1 : V2.heap[By]? = W1.heap[By]?) (f2 : V2.heap[Bb]? = W1.heap[Bb]?) (hs : W1.heap.size ≤ V2.heap.size)
    (hr : roomP bits x = true) (hj : J b (pre.filter (roomP bits) ++ [x]) M3 V3) (hg : Grw M2 M3 V2 V3) : ∃ M1', ptJ J bits W1 By Bb b (pre ++ [x]) M1' V3 ∧ Grw M1 M1' V2 V3 := by
  have hs3 := hg.kept.size
  refine ⟨fun k => M3 k ∨ k = By ∨ k = Bb, ⟨M3, fun _ => Iff.rfl, fun h => m1 (hg.old By h (by omega)), fun h => m2 (hg.old Bb h (by omega)), (hg.kept.block By (by omega) m1).trans f1, (hg.kept.block Bb (by omega) m2).trans f2, by omega, ?_⟩, ⟨hg.kept.mono fun k h h' => h ((hM k).2 (Or.inl h')), fun k h hl => (hM k).2 (h.imp (fun h => hg.old k h hl) id), fun k h => ?_⟩⟩
  · rw [List.filter_append, List.filter_cons_of_pos hr]; exact hj
  · rcases h with h | h | h
    · exact hg.fit k h
    · omega
    · omega

theorem lastB {W : World} {A B C D : Prop} {w' : World} (c : A ∧ B ∧ C ∧ D ∧ Below W.heap.size W w') : Below W.heap.size W w' := c.2.2.2.2

set_option maxRecDepth 10000 in
set_option maxHeartbeats 2000000 in
theorem part_gives (p : Pf) (a : Option Addr) (n cap : Nat) (bits : Int) (w0 : World) (ys : List Sp) (hL : LeftGives p a n cap w0 ys) : PartGives p a n cap bits w0 (partL p.s bits ys) := by
  intro w Bb Bp Bl hw hcb hbp hbl hb0 hb hp hq l J M W hk hRM hfit hA hRn hJ
  cases hgt : decide ((wd p.s : Int) < bits)
  · have hpl : partL p.s bits ys = ys.filter (roomP bits) := by unfold partL; rw [if_neg (of_decide_eq_false hgt)]
    rw [hpl] at hRn ⊢
    clear hpl
    have HL := hidP hL
    have hw2 : Below w0.heap.size w0 W := hw.trans ((hk.mono (N := fun k => k < w0.heap.size) fun k h => Or.inl h).below hw.size)
    have HW2 := hidP hw2
    have hbW : Box4 W Bp p := hbp.kpt hk hp (Or.inr (Or.inr (Or.inl rfl)))
    have cb : W.cell? ⟨Bb, 0, none⟩ = some (.int .i64 bits) := (hk.cell (p := ⟨Bb, 0, none⟩) hb (Or.inr (Or.inl rfl))).trans hcb
    have hcl : W.cell? ⟨Bl, 0, none⟩ = some (.slice a n cap) := (hk.cell (p := ⟨Bl, 0, none⟩) hq (Or.inr (Or.inr (Or.inr rfl)))).trans hbl
    have hbS : Bb < W.heap.size := Nat.lt_of_lt_of_le hb hk.size
    have hpW : Bp < W.heap.size := Nat.lt_of_lt_of_le hp hk.size
    have hqW : Bl < W.heap.size := Nat.lt_of_lt_of_le hq hk.size
    have HRM := hidP hRM
    have HFit := hidP hfit
    have HA := hidP hA
    have HRn := hidP hRn
    have HJ := hidP hJ
    obtain ⟨c0, c1, c2, c3⟩ := hbW
    have HWd := hidP (width_any p.s p.H.toInt p.L.toInt)
    clear hL hw hw2 hcb hbp hbl hb hp hq hk hRM hfit hA hRn hJ
    refine (callsIn_wide (n := 9)).1 (callsIn_of_wp_marks Tryz.func120 rfl trivial ?_ rfl)
    simp only [Tryz.ntmps120, List.size_toArray, List.length_cons, List.length_nil, Nat.reduceAdd, Nat.reduceSub, Array.replicate_succ, Array.replicate_zero, List.push_toArray, List.append_toArray, List.nil_append, List.cons_append]
    gi_wp2
    have hs1 : (W.alloc (.cells #[.func (.yield l) #[] #[]] 73)).heap.size = W.heap.size + 1 := by simp
    have hy1 : (W.alloc (.cells #[.func (.yield l) #[] #[]] 73)).cell? ⟨W.heap.size, 0, none⟩ = some (.func (.yield l) #[] #[]) := cell_new W _ _
    have hb1 : Below W.heap.size W (W.alloc (.cells #[.func (.yield l) #[] #[]] 73)) := (Below.refl _ W).alloc (Nat.le_refl _) _
    generalize W.alloc (.cells #[.func (.yield l) #[] #[]] 73) = W1 at *
    have HSx : Hid (∀ w', Below W1.heap.size W1 w' → (w'.cell? ⟨Bb, 0, none⟩ = some (.int .i64 bits) ∧ w'.cell? ⟨Bp, 0, none⟩ = some (.bool p.s) ∧ w'.cell? ⟨Bp, 1, none⟩ = some (.int .i64 p.H.toInt) ∧ w'.cell? ⟨Bp, 2, none⟩ = some (.int .i64 p.L.toInt) ∧ Below W1.heap.size W1 w')) := hidP fun w' h =>
      have e : ∀ q : Addr, q.block < W.heap.size → w'.cell? q = W.cell? q := fun q hq => (h.cell (p := q) (by omega)).trans (hb1.cell (p := q) hq)
      ⟨(e ⟨Bb, 0, none⟩ hbS).trans cb, (e ⟨Bp, 0, none⟩ hpW).trans c0, (e ⟨Bp, 1, none⟩ hpW).trans c1, (e ⟨Bp, 2, none⟩ hpW).trans c2, h⟩
    have HSy : Hid (∀ w', Below W1.heap.size W1 w' → (w'.cell? ⟨Bp, 3, none⟩ = some (.int .i64 p.b) ∧ w'.cell? ⟨Bl, 0, none⟩ = some (.slice a n cap) ∧ w'.cell? ⟨W.heap.size, 0, none⟩ = some (.func (.yield l) #[] #[]))) := hidP fun w' h =>
      have e : ∀ q : Addr, q.block < W.heap.size → w'.cell? q = W.cell? q := fun q hq => (h.cell (p := q) (by omega)).trans (hb1.cell (p := q) hq)
      ⟨(e ⟨Bp, 3, none⟩ hpW).trans c3, (e ⟨Bl, 0, none⟩ hqW).trans hcl, (h.cell (p := ⟨W.heap.size, 0, none⟩) (show W.heap.size < W1.heap.size by omega)).trans hy1⟩
    have HB1 := hidP hb1
    have HY1 := hidP hy1
    clear c0 c1 c2 c3 cb hcl hy1 hb1
    have hS0 := HSx.out W1 (Below.refl _ _)
    obtain ⟨cb, c0, c1, c2, _⟩ := HSx.out W1 (Below.refl _ _)
    have hbS1 : Bb < W1.heap.size := by omega
    have hpW1 : Bp < W1.heap.size := by omega
    have hqW1 : Bl < W1.heap.size := by omega
    refine wpIn_wide.2 ?_
    go_region_held3 (fun w' => w'.cell? ⟨Bb, 0, none⟩ = some (.int .i64 bits) ∧ w'.cell? ⟨Bp, 0, none⟩ = some (.bool p.s) ∧ w'.cell? ⟨Bp, 1, none⟩ = some (.int .i64 p.H.toInt) ∧ w'.cell? ⟨Bp, 2, none⟩ = some (.int .i64 p.L.toInt) ∧ Below W1.heap.size W1 w') (first | (with_reducible exact HSx.out _ b2) | (with_reducible exact hS0) | (with_reducible exact HSx.out _ (Below.refl _ _).drew) | (with_reducible exact HSx.out _ (Below.refl _ _))) (first | (go_at_call_of 103 (Value.int IntKind.i64 p.H.toInt); refine (HWd.out _).mono ?_; rintro e w2 ⟨rfl, hb2⟩; have b2 := (lastB (by assumption)).trans (hb2.mono (lastB (by assumption)).size)))
    all_goals
      have HB2 := hidP b2
      clear hb2 b2
      obtain ⟨cb', c0', c1', c2', _⟩ := HSx.out w2 HB2.out
      obtain ⟨c3', cl', cy'⟩ := HSy.out w2 HB2.out
      have hz2 := HB2.out.size
      gi_wp2
      refine ⟨trivial, (callsIn_wide.2 (leftOf_any p a n cap _)).mono ?_⟩
      rintro e w3 ⟨rfl, rfl⟩
      have hz3 : ((w2.alloc (.cells #[.bool p.s, .int .i64 p.H.toInt, .int .i64 p.L.toInt, .int .i64 p.b] 31)).alloc (.cells #[.slice a n cap] 78)).heap.size = w2.heap.size + 2 := by simp
      have hb3 : Below w2.heap.size w2 ((w2.alloc (.cells #[.bool p.s, .int .i64 p.H.toInt, .int .i64 p.L.toInt, .int .i64 p.b] 31)).alloc (.cells #[.slice a n cap] 78)) := ((Below.refl _ w2).alloc (Nat.le_refl _) _).alloc (by simp) _
      have hx3 : Box4 ((w2.alloc (.cells #[.bool p.s, .int .i64 p.H.toInt, .int .i64 p.L.toInt, .int .i64 p.b] 31)).alloc (.cells #[.slice a n cap] 78)) w2.heap.size p := Box4.later (box_cells w2 31 p) ((Below.refl _ _).alloc (Nat.le_refl _) _) (by simp)
      have hx4 : ((w2.alloc (.cells #[.bool p.s, .int .i64 p.H.toInt, .int .i64 p.L.toInt, .int .i64 p.b] 31)).alloc (.cells #[.slice a n cap] 78)).cell? ⟨w2.heap.size + 1, 0, none⟩ = some (.slice a n cap) := by
        have h := cell_new (w2.alloc (.cells #[.bool p.s, .int .i64 p.H.toInt, .int .i64 p.L.toInt, .int .i64 p.b] 31)) (.slice a n cap) 78
        rw [World.size_alloc] at h; exact h
      gi_wp2
      generalize ((w2.alloc (.cells #[.bool p.s, .int .i64 p.H.toInt, .int .i64 p.L.toInt, .int .i64 p.b] 31)).alloc (.cells #[.slice a n cap] 78)) = W3 at *
      have HBW3 : Hid (Below W1.heap.size W1 W3) := hidP (HB2.out.trans (hb3.mono hz2))
      have HBW : Hid (Below W.heap.size W W3) := hidP (HB1.out.trans (HBW3.out.mono HB1.out.size))
      have HIt := hidP (HL.out W3 w2.heap.size (w2.heap.size + 1) (HW2.out.trans (HBW.out.mono HW2.out.size)) hx3 hx4 (by omega) (by omega))
      have hw0 : w0.heap.size ≤ W.heap.size := HW2.out.size
      clear hb3 hx3 hx4
      refine wp_range (gf := 144) (lb := #[.pointer (some ⟨w2.heap.size, 0, none⟩), .pointer (some ⟨w2.heap.size + 1, 0, none⟩)]) rfl (enters_of Tryz.func144 (by kernel_rfl) rfl) HIt.out (fun _ => rfl) (fun k h => by omega)
        (ptJ J bits W1 W.heap.size Bb true) (fun c pre M1 V => c = .ret ∧ ptJ J bits W1 W.heap.size Bb false pre M1 V) (fun _ _ _ _ h hk => pt_abd HA.out (by omega) (by omega) h hk) (fun _ _ _ _ _ h hk => ⟨h.1, pt_abd HA.out (by omega) (by omega) h.2 hk⟩)
        (fun k => M k ∨ k = W.heap.size ∨ k = Bb) (fun k h => h.elim (fun h => by have := HFit.out k h; omega) fun h => by omega) (fun k h hm => ?dis)
        ⟨M, fun _ => Iff.rfl, fun h => by have := HFit.out _ h; omega, HRM.out Bb (Or.inr (Or.inl rfl)), HBW3.out.block _ (by omega), HBW3.out.block _ (by omega), HBW3.out.size, HA.out _ _ _ _ _ HJ.out (Kpt.ofBelow _ HBW.out)⟩ ?round ?done ?stop
      case dis =>
        rcases hm with hm | hm | hm
        · have hf := HFit.out k hm
          rcases h with h | h | h
          · exact HRM.out k (Or.inl h) hm
          · omega
          · omega
        · omega
        · omega
      case done =>
        rintro D M1 V hD hDl hMD hp hg hK
        gi_wp2
        refine ⟨by simp, .inl ⟨_, _, rfl, run_takeDeferred hK, ?_⟩⟩
        exact ⟨_, results_none rfl _ _ _, ⟨⟨_, rfl⟩, true, pt_end HA.out HB1.out HBW.out hbS hp hg D hD hMD (fun _ => rfl) (fun h => by cases h)⟩⟩
      case stop =>
        rintro D c pre M1 V hD hDl hMD hpre ⟨rfl, hp⟩ hg hK
        gi_wp2
        refine ⟨by simp, .inl ⟨_, _, rfl, run_takeDeferred hK, ?_⟩⟩
        exact ⟨_, results_none rfl _ _ _, ⟨⟨_, rfl⟩, false, pt_end HA.out HB1.out HBW.out hbS hp hg D hD hMD (fun h => by cases h) (fun _ => filter_pre _ hpre)⟩⟩
      case round =>
        intro l' pre x M1 V _ hf hl' _ hlt hpre
        unfold encP
        refine rnd_of ?_
        intro K' HK'
        have HF0 := hidP hf
        have HPr := hidP hpre
        clear hf hl' hpre
        gi_wp2
        refine HK'.out _ _ ⟨(Below.refl _ V).alloc (Nat.le_refl _) _, ?_⟩
        clear HK'
        intro V2 hk2 hs2 hi2
        obtain ⟨M2, hM2, m1, m2, f1, f2, hsz2, hj2⟩ := hi2
        have cy := (cell_blk (A := W1) (p := ⟨W.heap.size, 0, none⟩) f1).trans HY1.out
        have cb2 := (cell_blk (A := W1) (p := ⟨Bb, 0, none⟩) f2).trans cb
        obtain ⟨x0, x1, x2, x3⟩ := box_cells V 31 x.pre
        have lV : V.heap.size < (V.alloc (.cells #[.bool x.s, .int .i64 x.H.toInt, .int .i64 x.L.toInt, .int .i64 ((wd x.s : Int) - x.n)] 31)).heap.size := by simp
        have nV : V.heap.size ≠ l' := by omega
        have y0 := (hk2.cell (p := ⟨V.heap.size, 0, none⟩) lV nV).trans x0
        have y1 := (hk2.cell (p := ⟨V.heap.size, 1, none⟩) lV nV).trans x1
        have y2 := (hk2.cell (p := ⟨V.heap.size, 2, none⟩) lV nV).trans x2
        have y3 := (hk2.cell (p := ⟨V.heap.size, 3, none⟩) lV nV).trans x3
        dsimp only [Sp.pre] at y0 y1 y2 y3
        have hVs : V.heap.size < V2.heap.size := by rw [hs2]; exact lV
        have hWs : W.heap.size < V2.heap.size := by omega
        have hBs : Bb < V2.heap.size := by omega
        have fit2 : ∀ k, M2 k → k < V2.heap.size := fun k h => by have := HF0.out k ((hM2 k).2 (Or.inl h)); omega
        have fit1 : ∀ k, M1 k → k < V2.heap.size := fun k h => by have := HF0.out k h; omega
        cases hr : decide ((wd x.s : Int) - x.n ≤ bits)
        · have HF : Hid (∃ M', ptJ J bits W1 W.heap.size Bb true (pre ++ [x]) M' V2 ∧ Grw M1 M' V2 V2) := hidP ⟨M1, ⟨M2, hM2, m1, m2, f1, f2, hsz2, by rw [List.filter_append, List.filter_cons_of_neg (by unfold roomP; rw [hr]; simp), List.filter_nil, List.append_nil]; exact hj2⟩, Grw.refl fit1⟩
          clear hk2 hs2 hM2 m1 m2 f1 f2 hsz2 hj2 x0 x1 x2 x3 lV nV fit2 fit1
          gi_wp2
          first | exact HF.out | (refine ⟨fun _ h => (by cases h), ?_⟩; gi_wp2; exact HF.out) | trace_state
        · have hpx : pre.filter (roomP bits) ++ [x] <+: ys.filter (roomP bits) := by
            have h := filter_pre (roomP bits) HPr.out
            rw [List.filter_append, List.filter_cons_of_pos (show roomP bits x = true from hr)] at h
            exact h
          obtain ⟨fn, tmps, assign, body, hy, hRd⟩ := HRn.out 8 (pre.filter (roomP bits)) x M2 V2 hj2 fit2 hpx
          dsimp only [encP] at hy
          have HRd := hidP hRd
          have HN : Hid (∀ (b : Bool) (M3 : Nat → Prop) (V3 : World), J b (pre.filter (roomP bits) ++ [x]) M3 V3 → Grw M2 M3 V2 V3 → ∃ M1', ptJ J bits W1 W.heap.size Bb b (pre ++ [x]) M1' V3 ∧ Grw M1 M1' V2 V3) := hidP fun b M3 V3 hj hg => pt_next (show W.heap.size < W1.heap.size by omega) hbS1 hM2 m1 m2 f1 f2 hsz2 hr hj hg
          clear hk2 hs2 hM2 m1 m2 f1 f2 hsz2 hj2 x0 x1 x2 x3 lV nV fit2 fit1 hpx hRd
          gi_wp2
          refine RoundIn.mono (F := Fence.wide.inRound l') HRd.out ?_
          rintro e V3 ⟨b, M3, rfl, hj3, hg3⟩
          have HG := hidP (HN.out b M3 V3 hj3 hg3)
          clear hj3 hg3
          cases b
          · gi_wp2
            obtain ⟨M4, h1, h2⟩ := HG.out
            exact ⟨M4, ⟨rfl, h1⟩, h2⟩
          · gi_wp2
            exact HG.out
  · have hpl : partL p.s bits ys = [] := by unfold partL; rw [if_pos (of_decide_eq_true hgt)]
    rw [hpl] at hRn ⊢
    clear hpl
    have HL := hidP hL
    have hw2 : Below w0.heap.size w0 W := hw.trans ((hk.mono (N := fun k => k < w0.heap.size) fun k h => Or.inl h).below hw.size)
    have HW2 := hidP hw2
    have hbW : Box4 W Bp p := hbp.kpt hk hp (Or.inr (Or.inr (Or.inl rfl)))
    have cb : W.cell? ⟨Bb, 0, none⟩ = some (.int .i64 bits) := (hk.cell (p := ⟨Bb, 0, none⟩) hb (Or.inr (Or.inl rfl))).trans hcb
    have hcl : W.cell? ⟨Bl, 0, none⟩ = some (.slice a n cap) := (hk.cell (p := ⟨Bl, 0, none⟩) hq (Or.inr (Or.inr (Or.inr rfl)))).trans hbl
    have hbS : Bb < W.heap.size := Nat.lt_of_lt_of_le hb hk.size
    have hpW : Bp < W.heap.size := Nat.lt_of_lt_of_le hp hk.size
    have hqW : Bl < W.heap.size := Nat.lt_of_lt_of_le hq hk.size
    have HRM := hidP hRM
    have HFit := hidP hfit
    have HA := hidP hA
    have HRn := hidP hRn
    have HJ := hidP hJ
    obtain ⟨c0, c1, c2, c3⟩ := hbW
    have HWd := hidP (width_any p.s p.H.toInt p.L.toInt)
    clear hL hw hw2 hcb hbp hbl hb hp hq hk hRM hfit hA hRn hJ
    refine (callsIn_wide (n := 9)).1 (callsIn_of_wp_marks Tryz.func120 rfl trivial ?_ rfl)
    simp only [Tryz.ntmps120, List.size_toArray, List.length_cons, List.length_nil, Nat.reduceAdd, Nat.reduceSub, Array.replicate_succ, Array.replicate_zero, List.push_toArray, List.append_toArray, List.nil_append, List.cons_append]
    gi_wp2
    have hs1 : (W.alloc (.cells #[.func (.yield l) #[] #[]] 73)).heap.size = W.heap.size + 1 := by simp
    have hy1 : (W.alloc (.cells #[.func (.yield l) #[] #[]] 73)).cell? ⟨W.heap.size, 0, none⟩ = some (.func (.yield l) #[] #[]) := cell_new W _ _
    have hb1 : Below W.heap.size W (W.alloc (.cells #[.func (.yield l) #[] #[]] 73)) := (Below.refl _ W).alloc (Nat.le_refl _) _
    generalize W.alloc (.cells #[.func (.yield l) #[] #[]] 73) = W1 at *
    have HSx : Hid (∀ w', Below W1.heap.size W1 w' → (w'.cell? ⟨Bb, 0, none⟩ = some (.int .i64 bits) ∧ w'.cell? ⟨Bp, 0, none⟩ = some (.bool p.s) ∧ w'.cell? ⟨Bp, 1, none⟩ = some (.int .i64 p.H.toInt) ∧ w'.cell? ⟨Bp, 2, none⟩ = some (.int .i64 p.L.toInt) ∧ Below W1.heap.size W1 w')) := hidP fun w' h =>
      have e : ∀ q : Addr, q.block < W.heap.size → w'.cell? q = W.cell? q := fun q hq => (h.cell (p := q) (by omega)).trans (hb1.cell (p := q) hq)
      ⟨(e ⟨Bb, 0, none⟩ hbS).trans cb, (e ⟨Bp, 0, none⟩ hpW).trans c0, (e ⟨Bp, 1, none⟩ hpW).trans c1, (e ⟨Bp, 2, none⟩ hpW).trans c2, h⟩
    have HSy : Hid (∀ w', Below W1.heap.size W1 w' → (w'.cell? ⟨Bp, 3, none⟩ = some (.int .i64 p.b) ∧ w'.cell? ⟨Bl, 0, none⟩ = some (.slice a n cap) ∧ w'.cell? ⟨W.heap.size, 0, none⟩ = some (.func (.yield l) #[] #[]))) := hidP fun w' h =>
      have e : ∀ q : Addr, q.block < W.heap.size → w'.cell? q = W.cell? q := fun q hq => (h.cell (p := q) (by omega)).trans (hb1.cell (p := q) hq)
      ⟨(e ⟨Bp, 3, none⟩ hpW).trans c3, (e ⟨Bl, 0, none⟩ hqW).trans hcl, (h.cell (p := ⟨W.heap.size, 0, none⟩) (show W.heap.size < W1.heap.size by omega)).trans hy1⟩
    have HB1 := hidP hb1
    have HY1 := hidP hy1
    clear c0 c1 c2 c3 cb hcl hy1 hb1
    have hS0 := HSx.out W1 (Below.refl _ _)
    obtain ⟨cb, c0, c1, c2, _⟩ := HSx.out W1 (Below.refl _ _)
    have hbS1 : Bb < W1.heap.size := by omega
    have hpW1 : Bp < W1.heap.size := by omega
    have hqW1 : Bl < W1.heap.size := by omega
    refine wpIn_wide.2 ?_
    go_region_held3 (fun w' => w'.cell? ⟨Bb, 0, none⟩ = some (.int .i64 bits) ∧ w'.cell? ⟨Bp, 0, none⟩ = some (.bool p.s) ∧ w'.cell? ⟨Bp, 1, none⟩ = some (.int .i64 p.H.toInt) ∧ w'.cell? ⟨Bp, 2, none⟩ = some (.int .i64 p.L.toInt) ∧ Below W1.heap.size W1 w') (first | (with_reducible exact HSx.out _ b2) | (with_reducible exact hS0) | (with_reducible exact HSx.out _ (Below.refl _ _).drew) | (with_reducible exact HSx.out _ (Below.refl _ _))) (first | (go_at_call_of 103 (Value.int IntKind.i64 p.H.toInt); refine (HWd.out _).mono ?_; rintro e w2 ⟨rfl, hb2⟩; have b2 := (lastB (by assumption)).trans (hb2.mono (lastB (by assumption)).size)))
    all_goals
      have HB2 := hidP b2
      have HE : Hid (∃ b, Ends J [] [] M W w2 b) := hidP ⟨true, [], M, HA.out _ _ _ _ _ HJ.out (Kpt.ofBelow _ (HB1.out.trans (b2.mono HB1.out.size))), Grw.ofBelow (HB1.out.trans (b2.mono HB1.out.size)) HFit.out, fun _ => rfl, fun h => by cases h⟩
      clear hb2 b2
      gi_wp2
      exact ⟨_, results_none rfl _ _ _, ⟨⟨_, rfl⟩, HE.out⟩⟩

end Go.Proofs.YtdbcdichmmcnbaaGreat
