/-
  The program's leftOf: a function value that hands out what is left, one by one.
-/
import Derived.Test.YtgohffeneibhdaaMPs
import Derived.Test.YtgohffeneibhdaaBAddr
namespace Go.Proofs.Ytgohffeneibhdaa
open Go.RowKit

/-- The four cells of a box. -/
def Box4 (w : World) (B : Nat) (p : Pf) : Prop := w.cell? ⟨B, 0, none⟩ = some (.bool p.s) ∧ w.cell? ⟨B, 1, none⟩ = some (.int .i64 p.H.toInt) ∧ w.cell? ⟨B, 2, none⟩ = some (.int .i64 p.L.toInt) ∧ w.cell? ⟨B, 3, none⟩ = some (.int .i64 p.b)
theorem Box4.kpt {w w' : World} {M : Nat → Prop} {B : Nat} {p : Pf} (h : Box4 w B p) (hk : Kpt M w w') (hB : B < w.heap.size) (hm : M B) : Box4 w' B p :=
  have e : ∀ i, w'.cell? ⟨B, i, none⟩ = w.cell? ⟨B, i, none⟩ := fun _ => World.cell?_of_block (hk.block B hB hm)
  ⟨(e _).trans h.1, (e _).trans h.2.1, (e _).trans h.2.2.1, (e _).trans h.2.2.2⟩
theorem Box4.later {w w' : World} {B : Nat} {p : Pf} (h : Box4 w B p) (hk : Below w.heap.size w w') (hB : B < w.heap.size) : Box4 w' B p := h.kpt (Kpt.ofBelow (fun _ => True) hk) hB trivial

/-- The program's leftOf, of p and a row, hands out ys. -/
def LeftGives (p : Pf) (a : Option Addr) (n cap : Nat) (w0 : World) (ys : List Sp) : Prop := ∀ (w : World) (Bp Bl : Nat), Below w0.heap.size w0 w → Box4 w Bp p → w.cell? ⟨Bl, 0, none⟩ = some (.slice a n cap) → Bp < w.heap.size → Bl < w.heap.size →
  Iter Try.prog 74 #[.pointer (some ⟨Bp, 0, none⟩), .pointer (some ⟨Bl, 0, none⟩)] encP ys (fun k => k < w0.heap.size ∨ k = Bp ∨ k = Bl) w

set_option maxHeartbeats 1000000 in
theorem leftOf_any (p : Pf) (a : Option Addr) (n cap : Nat) (w : World) :
    Calls Try.prog 46 #[.agg #[.bool p.s, .int .i64 p.H.toInt, .int .i64 p.L.toInt, .int .i64 p.b], .slice a n cap] w fun e w' => e = .returned (.func (.func 74) #[] #[.pointer (some ⟨w.heap.size, 0, none⟩), .pointer (some ⟨w.heap.size + 1, 0, none⟩)]) ∧ w' = (w.alloc (.cells #[.bool p.s, .int .i64 p.H.toInt, .int .i64 p.L.toInt, .int .i64 p.b] 31)).alloc (.cells #[.slice a n cap] 24) := by
  go_enter Try.func46, Try.ntmps46
  go_wp2
  go_ret
  exact ⟨rfl, rfl⟩

set_option maxRecDepth 10000 in
set_option maxHeartbeats 2000000 in
theorem left_yes (x : Sp) (hx : x.ok) (a : Option Addr) (cap : Nat) (xs : List Sp) (hxs : ∀ t ∈ xs, t.ok) (w0 : World) (hB : Row w0 a (xs.map Sp.pre)) (hl : xs.length ≤ 300) : LeftGives x.pre a xs.length cap w0 (leftM x.n x xs) := by
  intro w Bp Bl hw hbp hbl hp hq l J M W hk hRM hfit hA hRn hJ
  have HP := hidP (spanOf_yes x.s x.H x.L ((wd x.s : Int) - x.n) x.n (by omega) hx.pok)
  have hS : ∀ wx, Below W.heap.size W wx → Calls Try.prog 28 #[.slice a xs.length cap] wx fun e w' => ∃ g, e = .returned (.tuple #[.slice (some ⟨g, 0, none⟩) xs.length xs.length, .bool true]) ∧ OwnR 55 w' wx.heap.size (.slice (some ⟨g, 0, none⟩) xs.length xs.length) (xs.map Sp.spn) ∧ Below wx.heap.size wx w' := fun wx hb => by
    have hR : Row wx a (xs.map Sp.pre) := (hB.later (hw.trans ((hk.mono (N := fun k => k < w0.heap.size) fun k h => Or.inl h).below hw.size))).later hb
    have h := spansOf_short a cap (xs.map Sp.pre) wx hR (by rw [List.length_map]; exact hl)
    have hr := right_pre xs hxs hl
    unfold rightP at hr
    rw [Bool.and_eq_true] at hr
    rw [List.length_map] at h
    refine h.mono ?_
    rintro e w' ⟨h1 | h1, hb⟩
    · obtain ⟨_, g, rfl, ho⟩ := h1
      rw [sp_pre] at ho
      exact ⟨g, rfl, ho, hb⟩
    · rw [hr.1] at h1; cases h1.1
  have HS := hidP hS
  have hbW : Box4 W Bp x.pre := hbp.kpt hk hp (Or.inr (Or.inl rfl))
  have hcl : W.cell? ⟨Bl, 0, none⟩ = some (.slice a xs.length cap) := (hk.cell (p := ⟨Bl, 0, none⟩) hq (Or.inr (Or.inr rfl))).trans hbl
  have hpW : Bp < W.heap.size := Nat.lt_of_lt_of_le hp hk.size
  have hqW : Bl < W.heap.size := Nat.lt_of_lt_of_le hq hk.size
  have HE : Hid (∀ (g : Nat) (w1 : World), OwnR 55 w1 W.heap.size (.slice (some ⟨g, 0, none⟩) xs.length xs.length) (xs.map Sp.spn) → Below W.heap.size W w1 → Calls Try.prog 75 #[.agg #[.bool x.s, .int .i64 x.H.toInt, .int .i64 x.L.toInt, .int .i64 (x.n : Int)], .slice (some ⟨g, 0, none⟩) xs.length xs.length, .func (.yield l) #[] #[]] w1 fun e w' => ∃ b, e = .returned (.bool b) ∧ Ends J (leftM x.n x xs) (leftM x.n x xs) M W w' b) := hidP fun g w1 ho hb => by
    refine (each_all x.n x hx rfl xs hxs hl (some ⟨g, 0, none⟩) xs.length w1 ho.row l (leftM x.n x xs) J hA hRn M (fun p o h hm => ?_) (fun k hk => Nat.lt_of_lt_of_le (hfit k hk) hb.size) [] (hA _ _ _ _ _ hJ (Kpt.ofBelow _ hb)) (List.prefix_refl _)).mono ?_
    · cases h
      have h1 := (ho.lt g rfl).1
      have h2 := hfit g hm
      omega
    · rintro e w' ⟨b, rfl, pre, M', hj, hg, ht, hf⟩
      exact ⟨b, rfl, pre, M', hj, (Grw.ofBelow hb hfit).trans hg, ht, hf⟩
  obtain ⟨c0, c1, c2, c3⟩ := hbW
  dsimp only [Sp.pre] at c0 c1 c2 c3
  clear hS hbp hbl hk hRM hA hRn hJ hB hxs hx hw hp hq hfit
  obtain ⟨n, hn⟩ : ∃ n, n = xs.length := ⟨_, rfl⟩
  rw [← hn] at HS hcl HE hl
  clear hn
  go_enter Try.func74, Try.ntmps74
  go_wp2_with fail
  refine (HP.out _).mono ?_
  rintro e w2 ⟨rfl, hb2⟩
  have cl2 := (hb2.cell (p := ⟨Bl, 0, none⟩) hqW).trans hcl
  have hqW2 := Nat.lt_of_lt_of_le hqW hb2.size
  have HB2 := hidP hb2
  clear hb2 c0 c1 c2 c3 hcl
  go_wp2_with fail
  have HB3 := hidP (HB2.out.alloc HB2.out.size (.cells #[.bool x.s, .int .i64 x.H.toInt, .int .i64 x.L.toInt, .int .i64 (x.n : Int)] 55))
  obtain ⟨b0, b1, b2, b3⟩ := box_cells w2 55 ⟨x.s, x.H, x.L, (x.n : Int)⟩
  refine (HS.out _ HB3.out).mono ?_
  rintro e w3 ⟨g, rfl, ho, hb3⟩
  have lt2 : w2.heap.size < (w2.alloc (.cells #[.bool x.s, .int .i64 x.H.toInt, .int .i64 x.L.toInt, .int .i64 (x.n : Int)] 55)).heap.size := by simp
  have c0 := (hb3.cell (p := ⟨w2.heap.size, 0, none⟩) lt2).trans b0
  have c1 := (hb3.cell (p := ⟨w2.heap.size, 1, none⟩) lt2).trans b1
  have c2 := (hb3.cell (p := ⟨w2.heap.size, 2, none⟩) lt2).trans b2
  have c3 := (hb3.cell (p := ⟨w2.heap.size, 3, none⟩) lt2).trans b3
  have hlt : w2.heap.size < w3.heap.size := Nat.lt_of_lt_of_le lt2 hb3.size
  have HO := hidP (ho.mono HB3.out.size)
  have HB4 := hidP (HB3.out.trans (hb3.mono HB3.out.size))
  clear ho hb3 b0 b1 b2 b3 lt2 cl2
  go_wp2_with fail
  refine (HE.out g w3 HO.out HB4.out).mono ?_
  rintro e w4 ⟨b, rfl, h4⟩
  have H4 := hidP h4
  clear h4
  go_wp2_with fail
  go_end0
  exact ⟨⟨_, rfl⟩, b, H4.out⟩

set_option maxRecDepth 10000 in
set_option maxHeartbeats 2000000 in
theorem left_no (p : Pf) (a : Option Addr) (cap : Nat) (ps : List Pf) (w0 : World) (hB : Row w0 a ps) (hl : ps.length ≤ 1048576) (hno : (p.pok && rightP ps) = false) : LeftGives p a ps.length cap w0 [] := by
  intro w Bp Bl hw hbp hbl hp hq l J M W hk hRM hfit hA hRn hJ
  have hS : ∀ wx, Below W.heap.size W wx → Calls Try.prog 28 #[.slice a ps.length cap] wx fun e w' => ∃ a' n' c', e = .returned (.tuple #[.slice a' n' c', .bool (rightP ps)]) ∧ Below wx.heap.size wx w' := fun wx hb =>
    spansOf_res a cap ps wx ((hB.later (hw.trans ((hk.mono (N := fun k => k < w0.heap.size) fun k h => Or.inl h).below hw.size))).later hb) hl
  have HS := hidP hS
  have hbW : Box4 W Bp p := hbp.kpt hk hp (Or.inr (Or.inl rfl))
  have hcl : W.cell? ⟨Bl, 0, none⟩ = some (.slice a ps.length cap) := (hk.cell (p := ⟨Bl, 0, none⟩) hq (Or.inr (Or.inr rfl))).trans hbl
  have hpW : Bp < W.heap.size := Nat.lt_of_lt_of_le hp hk.size
  have hqW : Bl < W.heap.size := Nat.lt_of_lt_of_le hq hk.size
  have HE : Hid (∀ w', Below W.heap.size W w' → ∃ b, Ends J [] [] M W w' b) := hidP fun w' hb => ⟨true, [], M, hA _ _ _ _ _ hJ (Kpt.ofBelow _ hb), Grw.ofBelow hb hfit, fun _ => rfl, fun h => by cases h⟩
  obtain ⟨c0, c1, c2, c3⟩ := hbW
  clear hS hbp hbl hk hRM hA hRn hJ hB hw hp hq hfit
  obtain ⟨n, hn⟩ : ∃ n, n = ps.length := ⟨_, rfl⟩
  rw [← hn] at HS hcl hl
  clear hn
  cases hpk : pokB p.s p.H p.L p.b
  · have HP := hidP (spanOf_no p.s p.H p.L p.b hpk)
    clear hno hpk
    go_enter Try.func74, Try.ntmps74
    go_wp2_with fail
    refine (HP.out _).mono ?_
    rintro e w2 ⟨rfl, hb2⟩
    have cl2 := (hb2.cell (p := ⟨Bl, 0, none⟩) hqW).trans hcl
    have hqW2 := Nat.lt_of_lt_of_le hqW hb2.size
    have HB2 := hidP hb2
    clear hb2 c0 c1 c2 c3 hcl
    go_wp2_with fail
    have HB3 := hidP (HB2.out.alloc HB2.out.size (.cells #[.bool false, .int .i64 0, .int .i64 0, .int .i64 0] 55))
    refine (HS.out _ HB3.out).mono ?_
    rintro e w3 ⟨a3, n3, c3, rfl, hb3⟩
    have HB4 := hidP (HB3.out.trans (hb3.mono HB3.out.size))
    clear hb3 cl2
    go_wp2_with fail
    go_end0
    exact ⟨⟨_, rfl⟩, HE.out _ HB4.out⟩
  · have hr : rightP ps = false := by
      have h1 : p.pok = true := hpk
      rw [h1] at hno; simpa using hno
    simp only [hr] at HS
    clear hr hno
    obtain ⟨m, hm⟩ : ∃ m : Nat, (m : Int) = (wd p.s : Int) - p.b := ⟨((wd p.s : Int) - p.b).toNat, by have := (pokB_parts hpk).2.1; omega⟩
    have HP := hidP (spanOf_yes p.s p.H p.L p.b m hm hpk)
    clear hm hpk
    go_enter Try.func74, Try.ntmps74
    go_wp2_with fail
    refine (HP.out _).mono ?_
    rintro e w2 ⟨rfl, hb2⟩
    have cl2 := (hb2.cell (p := ⟨Bl, 0, none⟩) hqW).trans hcl
    have hqW2 := Nat.lt_of_lt_of_le hqW hb2.size
    have HB2 := hidP hb2
    clear hb2 c0 c1 c2 c3 hcl
    go_wp2_with fail
    have HB3 := hidP (HB2.out.alloc HB2.out.size (.cells #[.bool p.s, .int .i64 p.H.toInt, .int .i64 p.L.toInt, .int .i64 (m : Int)] 55))
    refine (HS.out _ HB3.out).mono ?_
    rintro e w3 ⟨a3, n3, c3, rfl, hb3⟩
    have HB4 := hidP (HB3.out.trans (hb3.mono HB3.out.size))
    clear hb3 cl2
    go_wp2_with fail
    go_end0
    exact ⟨⟨_, rfl⟩, HE.out _ HB4.out⟩

end Go.Proofs.Ytgohffeneibhdaa

namespace Go.Proofs.Ytgohffeneibhdaa
open Go.RowKit

attribute [local go_sem] Oper.semAt_some

def roomP (b : Int) (t : Sp) : Bool := decide ((wd t.s : Int) - t.n ≤ b)
def partL (s : Bool) (b : Int) (ys : List Sp) : List Sp := if (wd s : Int) < b then [] else ys.filter (roomP b)

theorem filter_pre {α : Type} (f : α → Bool) {p xs : List α} (h : p <+: xs) : p.filter f <+: xs.filter f := by
  obtain ⟨t, rfl⟩ := h
  rw [List.filter_append]; exact List.prefix_append _ _

theorem cell_new (W : World) (v : Value) (t : TypeId) : (W.alloc (.cells #[v] t)).cell? ⟨W.heap.size, 0, none⟩ = some v := by
  have h := World.alloc_heap_new W (.cells #[v] t)
  unfold World.cell?
  rw [show (⟨W.heap.size, 0, none⟩ : Addr).block = W.heap.size from rfl, h]
  rfl

theorem cell_blk {A B : World} {p : Addr} (h : B.heap[p.block]? = A.heap[p.block]?) : B.cell? p = A.cell? p := World.cell?_of_block (w := A) h

/-- Between two rounds of the inner loop. -/
def ptJ (J : Bool → List Sp → (Nat → Prop) → World → Prop) (bits : Int) (W1 : World) (By Bb : Nat) (b : Bool) (pre : List Sp) (M1 : Nat → Prop) (V : World) : Prop :=
  ∃ M, (∀ k, M1 k ↔ (M k ∨ k = By ∨ k = Bb)) ∧ ¬ M By ∧ ¬ M Bb ∧ V.heap[By]? = W1.heap[By]? ∧ V.heap[Bb]? = W1.heap[Bb]? ∧ W1.heap.size ≤ V.heap.size ∧ J b (pre.filter (roomP bits)) M V

theorem pt_abd {J : Bool → List Sp → (Nat → Prop) → World → Prop} (hA : Abd J) {bits : Int} {W1 : World} {By Bb : Nat} (hy : By < W1.heap.size) (hb : Bb < W1.heap.size) {b : Bool} {pre : List Sp} {M1 : Nat → Prop} {A B : World}
    (h : ptJ J bits W1 By Bb b pre M1 A) (hk : Kpt M1 A B) : ptJ J bits W1 By Bb b pre M1 B := by
  obtain ⟨M, hM, n1, n2, e1, e2, hs, hj⟩ := h
  exact ⟨M, hM, n1, n2, (hk.block By (by omega) ((hM By).2 (Or.inr (Or.inl rfl)))).trans e1, (hk.block Bb (by omega) ((hM Bb).2 (Or.inr (Or.inr rfl)))).trans e2, Nat.le_trans hs hk.size, hA _ _ _ _ _ hj (hk.mono fun k h => (hM k).2 (Or.inl h))⟩

theorem pt_end {J : Bool → List Sp → (Nat → Prop) → World → Prop} (hA : Abd J) {bits : Int} {W W1 W3 V : World} {Bb : Nat} {b : Bool} {pre all xs : List Sp} {M M1 : Nat → Prop} (hW : Below W.heap.size W W1) (hW3 : Below W.heap.size W W3) (hbS : Bb < W.heap.size)
    (hp : ptJ J bits W1 W.heap.size Bb b pre M1 V) (hg : Grw (fun k => M k ∨ k = W.heap.size ∨ k = Bb) M1 W3 V) (D : Nat) (hD : W3.heap.size ≤ D) (hMD : ¬ M1 D) (ht : b = true → pre.filter (roomP bits) = xs) (hf : b = false → pre.filter (roomP bits) <+: all) :
    Ends J all xs M W (V.putObj D (.deferred none)) b := by
  obtain ⟨M', hM, n1, n2, e1, e2, hs, hj⟩ := hp
  have hz := hW3.size
  refine ⟨pre.filter (roomP bits), M', hA _ _ _ _ _ hj ((kpt_put V D _).mono fun k hk e => hMD ((hM D).2 (Or.inl (e ▸ hk)))), ⟨⟨hg.kept.os.trans hW3.os, hg.kept.tape.trans hW3.tape, hg.kept.output.trans hW3.output, by have := hg.kept.size; rw [World.putObj_size]; omega, fun k hk hn => ?_⟩, fun k hk hl => ?_, fun k hk => ?_⟩, ht, hf⟩
  · refine (World.putObj_heap_other (by omega)).trans ?_
    by_cases e : k = Bb
    · rw [e]; exact e2.trans (hW.block Bb hbS)
    · refine (hg.kept.block k (by omega) ?_).trans (hW3.block k hk)
      rintro (h | h | h)
      · exact hn h
      · omega
      · exact e h
  · rcases hg.old k ((hM k).2 (Or.inl hk)) (by omega) with h | h | h
    · exact h
    · omega
    · exact absurd (h ▸ hk) n2
  · rw [World.putObj_size]; exact hg.fit k ((hM k).2 (Or.inl hk))

theorem pt_next {J : Bool → List Sp → (Nat → Prop) → World → Prop} {bits : Int} {W1 V2 V3 : World} {By Bb : Nat} (hy : By < W1.heap.size) (hb : Bb < W1.heap.size) {b : Bool} {pre : List Sp} {x : Sp} {M1 M2 M3 : Nat → Prop}
    (hM : ∀ k, M1 k ↔ (M2 k ∨ k = By ∨ k = Bb)) (m1 : ¬ M2 By) (m2 : ¬ M2 Bb) (f1 : V2.heap[By]? = W1.heap[By]?) (f2 : V2.heap[Bb]? = W1.heap[Bb]?) (hs : W1.heap.size ≤ V2.heap.size)
    (hr : roomP bits x = true) (hj : J b (pre.filter (roomP bits) ++ [x]) M3 V3) (hg : Grw M2 M3 V2 V3) : ∃ M1', ptJ J bits W1 By Bb b (pre ++ [x]) M1' V3 ∧ Grw M1 M1' V2 V3 := by
  have hs3 := hg.kept.size
  refine ⟨fun k => M3 k ∨ k = By ∨ k = Bb, ⟨M3, fun _ => Iff.rfl, fun h => m1 (hg.old By h (by omega)), fun h => m2 (hg.old Bb h (by omega)), (hg.kept.block By (by omega) m1).trans f1, (hg.kept.block Bb (by omega) m2).trans f2, by omega, ?_⟩, ⟨hg.kept.mono fun k h h' => h ((hM k).2 (Or.inl h')), fun k h hl => (hM k).2 (h.imp (fun h => hg.old k h hl) id), fun k h => ?_⟩⟩
  · rw [List.filter_append, List.filter_cons_of_pos hr]; exact hj
  · rcases h with h | h | h
    · exact hg.fit k h
    · omega
    · omega

theorem lastB {W : World} {A B C D : Prop} {w' : World} (c : A ∧ B ∧ C ∧ D ∧ Below W.heap.size W w') : Below W.heap.size W w' := c.2.2.2.2

theorem lt_heap {A : World} {k : Nat} {o : Obj} (h : A.heap[k]? = some o) : k < A.heap.size := (Array.getElem?_eq_some_iff.1 h).1
theorem Kpt.at {M : Nat → Prop} {A B : World} {k : Nat} {o : Obj} (hk : Kpt M A B) (hm : M k) (h : A.heap[k]? = some o) : B.heap[k]? = some o := (hk.block k (lt_heap h) hm).trans h
theorem kpt_set {M : Nat → Prop} (V : World) (p : Addr) (u : Value) (hm : M p.block) : Kpt (fun k => ¬ M k) V (V.setCell p u) :=
  ⟨rfl, rfl, rfl, by simp [World.setCell], fun k _ hk => Below.heap_setCell V p u k fun e => hk (e ▸ hm)⟩
theorem Grw.set {M M' : Nat → Prop} {A V : World} (h : Grw M M' A V) (p : Addr) (u : Value) (hm : M' p.block) : Grw M M' A (V.setCell p u) :=
  h.trans ⟨kpt_set V p u hm, fun _ h _ => h, fun k hk => by rw [show (V.setCell p u).heap.size = V.heap.size by simp [World.setCell]]; exact h.fit k hk⟩
theorem set1 {V : World} {k : Nat} {v u : Value} {t : TypeId} (h : V.heap[k]? = some (.cells #[v] t)) : (V.setCell ⟨k, 0, none⟩ u).heap[k]? = some (.cells #[u] t) := by
  simp [World.setCell, Array.getElem?_modify, h]
theorem set4 {V : World} {k : Nat} {a b c d a' b' c' d' : Value} {t : TypeId} (h : V.heap[k]? = some (.cells #[a, b, c, d] t)) : ((((V.setCell ⟨k, 0, none⟩ a').setCell ⟨k, 1, none⟩ b').setCell ⟨k, 2, none⟩ c').setCell ⟨k, 3, none⟩ d').heap[k]? = some (.cells #[a', b', c', d'] t) := by
  simp [World.setCell, Array.getElem?_modify, h]
theorem setO {V : World} {k : Nat} {p : Addr} {u : Value} {o : Obj} (hne : k ≠ p.block) (h : V.heap[k]? = some o) : (V.setCell p u).heap[k]? = some o := (Below.heap_setCell V p u k hne).trans h
theorem of1 {V : World} {k : Nat} {v : Value} {t : TypeId} (h : V.heap[k]? = some (.cells #[v] t)) : V.cell? ⟨k, 0, none⟩ = some v ∧ V.frozen? ⟨k, 0, none⟩ = false := by
  constructor <;> simp [World.cell?, World.frozen?, h]
theorem of4 {V : World} {k : Nat} {a b c d : Value} {t : TypeId} (h : V.heap[k]? = some (.cells #[a, b, c, d] t)) : (V.cell? ⟨k, 0, none⟩ = some a ∧ V.cell? ⟨k, 1, none⟩ = some b ∧ V.cell? ⟨k, 2, none⟩ = some c ∧ V.cell? ⟨k, 3, none⟩ = some d) ∧ V.frozen? ⟨k, 0, none⟩ = false ∧ V.frozen? ⟨k, 1, none⟩ = false ∧ V.frozen? ⟨k, 2, none⟩ = false ∧ V.frozen? ⟨k, 3, none⟩ = false := by
  refine ⟨⟨?_, ?_, ?_, ?_⟩, ?_, ?_, ?_, ?_⟩ <;> simp [World.cell?, World.frozen?, h]
/-- Blocks laid one behind another. -/
def allocs (w : World) : List Obj → World
  | [] => w
  | o :: t => allocs (w.alloc o) t
theorem allocs_below : ∀ (os : List Obj) (w : World), Below w.heap.size w (allocs w os)
  | [], w => Below.refl _ w
  | o :: t, w => ((Below.refl _ w).alloc (Nat.le_refl _) o).trans ((allocs_below t (w.alloc o)).mono (by simp))
theorem allocs_size : ∀ (os : List Obj) (w : World), (allocs w os).heap.size = w.heap.size + os.length
  | [], _ => rfl
  | o :: t, w => by
      show (allocs (w.alloc o) t).heap.size = _
      rw [allocs_size t, World.size_alloc, List.length_cons]; omega
theorem allocs_at : ∀ (os : List Obj) (w : World) (i : Nat) (o : Obj), os[i]? = some o → (allocs w os).heap[w.heap.size + i]? = some o
  | [], _, _, _, h => by simp at h
  | o :: t, w, 0, o', h => by
      have e : o = o' := by simpa using h
      rw [← e]
      exact ((allocs_below t (w.alloc o)).block w.heap.size (by simp)).trans (World.alloc_heap_new w o)
  | o :: t, w, i + 1, o', h => by
      have := allocs_at t (w.alloc o) i o' (by simpa using h)
      rw [World.size_alloc] at this
      rw [show w.heap.size + (i + 1) = w.heap.size + 1 + i by omega]
      exact this
theorem bel_end {w w7 V : World} {M M' : Nat → Prop} (hb : Below w.heap.size w w7) (hg : Grw M M' w7 V) (hM : ∀ k, M k → w.heap.size ≤ k) {D : Nat} (hD : w7.heap.size ≤ D) (o : Obj) : Below w.heap.size w (V.putObj D o) := by
  have hz := hb.size
  exact ⟨hg.kept.os.trans hb.os, hg.kept.tape.trans hb.tape, hg.kept.output.trans hb.output, by have := hg.kept.size; rw [World.putObj_size]; omega, fun k hk => (World.putObj_heap_other (by omega)).trans ((hg.kept.block k (by omega) fun h => by have := hM k h; omega).trans (hb.block k hk))⟩

/-- What FirstFree answers where zs are handed out. -/
def frsV (bits : Int) : List Sp → Value
  | [] => .tuple #[.agg #[.bool false, .int .i64 0, .int .i64 0, .int .i64 0], .bool false]
  | z :: _ => .tuple #[.agg #[.bool z.s, .int .i64 z.H.toInt, .int .i64 z.L.toInt, .int .i64 bits], .bool true]
def frM (s : Nat) (k : Nat) : Prop := k = s + 1 ∨ k = s + 2 ∨ k = s + 3

theorem wpListIn_appR {F : Fence} {fu : Nat} {P : Program} {t e : TypeId} (h4 : Four P t e) {ops : Array Oper} {rest : List Oper} {o : Oper} {a : Act} {Q : Exit → Act → World → Prop} (w : World) (hgd : o.guard = none) (s x : Operand) (tx : TypeId)
    (ho : o.op = .call { callee := .builtin .append, args := #[s, x], argTypes := #[t, tx] })
    (B : Nat) (ad : Option Addr) (n cap m : Nat) (ps qs : List Pf) (xv : Value) (hsv : a.eval s = .slice ad n cap) (hn : n = ps.length) (hm : m = qs.length) (hown : OwnR e w B (.slice ad n cap) ps)
    (hx : a.eval x = xv) (hs : Src P 4 tx xv m (flat qs) w) (hl : n + m ≤ 1000000000) (hB : B ≤ w.heap.size)
    (h : ∀ a' c' w', OwnR e w' B (.slice a' (n + m) c') (ps ++ qs) → w.grownBy w' (Value.slice ad n cap).ownBlock → (a' = ad ∨ a' = some ⟨w.heap.size, 0, none⟩) → wpListIn F fu P ops Q rest (a.put o.dst (.slice a' (n + m) c')) w') : wpListIn F fu P ops Q (o :: rest) a w := by
  refine wpListIn_plain hgd fun K hK' => ?_
  obtain ⟨b, c, w', hr, h2, h3, h5⟩ := app_row h4 w B tx o.type ad n cap m ps qs xv hn hm hown hs hl hB
  unfold Oper.wpIn
  refine ⟨?_, ?_⟩
  · simp [Oper.about, ho, resolve, Target.leads, Sem.run_pure]
  · rw [Oper.semAt_plain F _ _ (by rw [ho]; intro c hc'; cases hc')]
    simp [execOp, ho, resolve, invoke, builtin, hsv, hx, hr, Result.andThen]
    exact hK' _ _ (h b c w' h2 h3 h5)

theorem OwnR.kpt {t : TypeId} {w w' : World} {B : Nat} {v : Value} {ps : List Pf} {M : Nat → Prop} (h : OwnR t w B v ps) (hk : Kpt M w w') (hm : ∀ k, v.ownBlock = some k → M k) : OwnR t w' B v ps := by
  refine ⟨h.1, ?_⟩
  rcases h.2 with h1 | ⟨g, cap, cur, hv, hb, hr, hr'⟩
  · exact Or.inl h1
  · exact Or.inr ⟨g, cap, cur, hv, hb, hk.at (hm g (by rw [hv]; rfl)) hr, hr'⟩
theorem Iter.later {α : Type} {P : Program} {g : Nat} {lb : Array Value} {encs : α → Array Value} {xs : List α} {R : Nat → Prop} {w w1 : World} (h : Iter P g lb encs xs R w) (hk : Kpt R w w1) : Iter P g lb encs xs R w1 :=
  fun l J M W h1 h2 h3 h4 h5 h6 => h l J M W (hk.trans h1) h2 h3 h4 h5 h6

/-- The rounds of AppendSeq own the box and the row in it. -/
def apM (s : Nat) (v : Value) (k : Nat) : Prop := k = s ∨ v.ownBlock = some k

set_option maxRecDepth 10000 in
set_option maxHeartbeats 2000000 in
theorem appSeq (gf : Nat) (lb : Array Value) (eg : ∀ args w, (callFunc gf args).run Try.prog w = .ok (.enter gf args) w) (ys : List Sp) (hl : ys.length ≤ 100000) (R : Nat → Prop) (B b0 : Nat) (w : World) (hit : Iter Try.prog gf lb encP ys R w) (hR : ∀ k, R k → k < w.heap.size) (hRb : ∀ k, R k → k ≠ b0) (hB : B ≤ w.heap.size)
    (hO : OwnR 31 w B (.slice (some ⟨b0, 0, none⟩) 0 0) []) :
    Calls Try.prog 45 #[.slice (some ⟨b0, 0, none⟩) 0 0, .func (.func gf) #[] lb] w fun e w' => ∃ a' c', e = .returned (.slice a' ys.length c') ∧ OwnR 31 w' B (.slice a' ys.length c') (ys.map Sp.pre) ∧ Below B w w' := by
  have hlb := hO.lt b0 rfl
  have HIt := hidP (hit.later (Kpt.ofBelow R ((Below.refl _ w).alloc (Nat.le_refl _) (.cells #[.slice (some ⟨b0, 0, none⟩) 0 0] 24))))
  have HR := hidP hR
  have HRb := hidP hRb
  have HO := hidP (hO.alloc (.cells #[.slice (some ⟨b0, 0, none⟩) 0 0] 24))
  have HEg := hidP eg
  clear hit hR hRb hO eg
  refine (callsIn_wide (n := 9)).1 (callsIn_of_wp_marks Try.func45 rfl trivial ?_ rfl)
  simp only [Try.ntmps45, List.size_toArray, List.length_cons, List.length_nil, Nat.reduceAdd, Nat.reduceSub, Array.replicate_succ, Array.replicate_zero, List.push_toArray, List.append_toArray, List.nil_append, List.cons_append]
  gi_wp2
  have HN0 := hidP (World.alloc_heap_new w (.cells #[.slice (some ⟨b0, 0, none⟩) 0 0] 24))
  have hs1 : (w.alloc (.cells #[.slice (some ⟨b0, 0, none⟩) 0 0] 24)).heap.size = w.heap.size + 1 := by simp
  have HB1 := hidP ((Below.refl _ w).alloc (Nat.le_refl _) (.cells #[.slice (some ⟨b0, 0, none⟩) 0 0] 24))
  generalize w.alloc (.cells #[.slice (some ⟨b0, 0, none⟩) 0 0] 24) = W1 at *
  refine wp_range (gf := gf) (lb := lb) rfl HEg.out HIt.out (fun _ => rfl) (fun k h => by have := HR.out k h; omega)
    (fun pre M V => ∃ ad c, OwnR 31 V B (.slice ad pre.length c) (pre.map Sp.pre) ∧ M = apM w.heap.size (.slice ad pre.length c) ∧ (Value.slice ad pre.length c).ownBlock ≠ some w.heap.size ∧ V.heap[w.heap.size]? = some (.cells #[.slice ad pre.length c] 24))
    (fun _ _ _ _ => False)
    (fun pre M A B' h hk => ?hI) (fun c pre M A B' h hk => h.elim) (apM w.heap.size (.slice (some ⟨b0, 0, none⟩) 0 0)) (fun k h => ?hfit) (fun k h hm => ?hdis) ⟨some ⟨b0, 0, none⟩, 0, HO.out, rfl, fun h => by have e : b0 = w.heap.size := Option.some.inj h; omega, HN0.out⟩ ?round ?done ?stop
  case hI =>
    obtain ⟨ad, c, ho, rfl, hne, hh⟩ := h
    exact ⟨ad, c, ho.kpt hk (fun k h => Or.inr h), rfl, hne, hk.at (Or.inl rfl) hh⟩
  case hfit =>
    rcases h with h | h
    · omega
    · have e : b0 = k := Option.some.inj h
      omega
  case hdis =>
    rcases hm with hm | hm
    · have := HR.out k h; omega
    · have e : b0 = k := Option.some.inj hm
      exact HRb.out k h e.symm
  case stop =>
    intro D c pre M1 V _ _ _ _ h
    exact h.elim
  case done =>
    rintro D M1 V hD hDl hMD ⟨ad, c, ho, rfl, hne, hh⟩ hg hK
    obtain ⟨v0, f0⟩ := of1 hh
    have lz := lt_heap hh
    have HE : Hid (OwnR 31 (V.putObj D (.deferred none)) B (.slice ad ys.length c) (ys.map Sp.pre) ∧ Below B w (V.putObj D (.deferred none))) := by
      refine hidP ⟨ho.kpt (kpt_put V D _) (fun k h e => hMD (Or.inr (e ▸ h))), ?_⟩
      have hz := HB1.out.size
      refine ⟨hg.kept.os.trans HB1.out.os, hg.kept.tape.trans HB1.out.tape, hg.kept.output.trans HB1.out.output, by have := hg.kept.size; rw [World.putObj_size]; omega, fun k hk => (World.putObj_heap_other (by omega)).trans ((hg.kept.block k (by omega) ?_).trans (HB1.out.block k (by omega)))⟩
      rintro (h | h)
      · omega
      · have e : b0 = k := Option.some.inj h
        omega
    clear ho hh hg
    gi_wp2
    refine ⟨by simp, .inl ⟨_, _, rfl, run_takeDeferred hK, ?_⟩⟩
    exact ⟨_, results_tmp rfl _ _ _, ad, c, rfl, HE.out⟩
  case round =>
    intro l' pre x M1 V _ hf hl' _ hlt hpre
    unfold encP
    refine rnd_of ?_
    intro K' HK'
    have HF0 := hidP hf
    have hpl : pre.length + 1 ≤ 100000 := by
      have := hpre.length_le
      rw [List.length_append, List.length_singleton] at this
      omega
    clear hf hl' hpre
    gi_wp2
    refine HK'.out _ _ ⟨(Below.refl _ V).alloc (Nat.le_refl _) _, ?_⟩
    clear HK'
    rintro V2 hk2 hs2 ⟨ad, c, ho, rfl, hne, hh⟩
    obtain ⟨x0, x1, x2, x3⟩ := box_cells V 31 x.pre
    have lV : V.heap.size < (V.alloc (.cells #[.bool x.s, .int .i64 x.H.toInt, .int .i64 x.L.toInt, .int .i64 ((wd x.s : Int) - x.n)] 31)).heap.size := by simp
    have nV : V.heap.size ≠ l' := by omega
    have y0 := (hk2.cell (p := ⟨V.heap.size, 0, none⟩) lV nV).trans x0
    have y1 := (hk2.cell (p := ⟨V.heap.size, 1, none⟩) lV nV).trans x1
    have y2 := (hk2.cell (p := ⟨V.heap.size, 2, none⟩) lV nV).trans x2
    have y3 := (hk2.cell (p := ⟨V.heap.size, 3, none⟩) lV nV).trans x3
    have hVs : V.heap.size < V2.heap.size := by rw [hs2]; exact lV
    dsimp only [Sp.pre] at y0 y1 y2 y3
    obtain ⟨v0, f0⟩ := of1 hh
    have lz := lt_heap hh
    have HOw := hidP ho
    have HH := hidP hh
    have HNe := hidP hne
    have HFt : Hid (∀ k, apM w.heap.size (.slice ad pre.length c) k → k < V2.heap.size) := hidP fun k h => by have := HF0.out k h; omega
    obtain ⟨m, hm⟩ : ∃ m, m = pre.length := ⟨_, rfl⟩
    have HM := hidP hm
    rw [← hm] at hpl v0
    clear hk2 hs2 ho hh hne x0 x1 x2 x3 lV nV hm
    have HOa := hidP (HOw.out.alloc (.cells #[.bool x.s, .int .i64 x.H.toInt, .int .i64 x.L.toInt, .int .i64 ((wd x.s : Int) - x.n)] 31))
    have HRo := hidP (row_one V2 31 x.pre)
    have HSz := hidP (heap_size_alloc' V2 (.cells #[.bool x.s, .int .i64 x.H.toInt, .int .i64 x.L.toInt, .int .i64 ((wd x.s : Int) - x.n)] 31))
    gi_wp2_with (gi_at_builtin; refine wpListIn_appR Try.fourP _ rfl (.tmp 8) (.tmp 10) 24 rfl B ad m c 1 (pre.map Sp.pre) [x.pre] (.slice (some ⟨V2.heap.size, 0, none⟩) 1 1) rfl (by rw [List.length_map]; exact HM.out) rfl (by rw [HM.out]; exact HOa.out) rfl (src_row Try.fourP 1 1 rfl HRo.out (by simp)) (by omega) (by have := HSz.out; omega) ?_; intro a6 c6 w4 ho4 hg4 ht4; have HH4 := hidP ((hg4.block w.heap.size (by rw [HSz.out]; omega) (by rw [HM.out]; exact fun e => HNe.out e.symm)).trans ((Below.heap_alloc V2 _ w.heap.size lz).trans HH.out)); have v4 := (of1 HH4.out).1; have f4 := (of1 HH4.out).2; have lz4 := lt_heap HH4.out)
    have hlen : (pre ++ [x]).length = m + 1 := by rw [List.length_append, ← HM.out]; rfl
    have hnb : (Value.slice a6 (m + 1) c6).ownBlock ≠ some w.heap.size := by
      rcases ht4 with h | h
      · rw [h]; have := HNe.out; rw [← HM.out] at this
        cases ad <;> exact this
      · rw [h]; intro e
        have e2 : (V2.alloc (.cells #[.bool x.s, .int .i64 x.H.toInt, .int .i64 x.L.toInt, .int .i64 ((wd x.s : Int) - x.n)] 31)).heap.size = w.heap.size := Option.some.inj e
        rw [HSz.out] at e2
        omega
    refine ⟨apM w.heap.size (.slice a6 (m + 1) c6), ⟨a6, c6, ?_, by rw [hlen], by rw [hlen]; exact hnb, by rw [hlen]; exact set1 HH4.out⟩, ?_⟩
    · rw [hlen, List.map_append]
      exact OwnR.kpt ho4 (kpt_set (M := fun k => k = w.heap.size) w4 ⟨w.heap.size, 0, none⟩ _ rfl) (fun k h e => hnb (e ▸ h))
    · have hz4 := hg4.size
      rw [HSz.out] at hz4
      refine ⟨⟨hg4.os, hg4.tape, hg4.output, by simp [World.setCell]; omega, fun k hk hn => ?_⟩, fun k h hk => ?_, fun k h => ?_⟩
      · refine (Below.heap_setCell w4 _ _ k (fun e => hn (Or.inl e))).trans ((hg4.block k (by rw [HSz.out]; omega) (fun e => hn (Or.inr ?_))).trans (Below.heap_alloc V2 _ k hk))
        rw [← HM.out]; exact e.symm
      · rcases h with h | h
        · exact Or.inl h
        · rcases ht4 with h' | h'
          · rw [h'] at h
            refine Or.inr ?_
            cases ad <;> exact h
          · rw [h'] at h
            have e2 : (V2.alloc (.cells #[.bool x.s, .int .i64 x.H.toInt, .int .i64 x.L.toInt, .int .i64 ((wd x.s : Int) - x.n)] 31)).heap.size = k := Option.some.inj h
            rw [HSz.out] at e2
            omega
      · have hz5 : (w4.setCell ⟨w.heap.size, 0, none⟩ (.slice a6 (m + 1) c6)).heap.size = w4.heap.size := by simp [World.setCell]
        rw [hz5]
        rcases h with h | h
        · omega
        · exact (ho4.lt k h).2

set_option maxRecDepth 10000 in
set_option maxHeartbeats 2000000 in
theorem iApp (p : Pf) (a : Option Addr) (n cap : Nat) (w : World) (ys : List Sp) (hP : LeftGives p a n cap w ys) (hl : ys.length ≤ 100000) :
    Calls Try.prog 14 #[.agg #[.bool p.s, .int .i64 p.H.toInt, .int .i64 p.L.toInt, .int .i64 p.b], .slice a n cap] w fun e w' => ∃ a' c', e = .returned (.slice a' ys.length c') ∧ OwnR 31 w' w.heap.size (.slice a' ys.length c') (ys.map Sp.pre) ∧ Below w.heap.size w w' := by
  have HP := hidP hP
  clear hP
  go_enter Try.func14, Try.ntmps14
  go_wp2_with fail
  refine (leftOf_any p a n cap _).mono ?_
  rintro e w4 ⟨rfl, hw4⟩
  obtain ⟨os, hos⟩ : ∃ os : List Obj, os = [.cells #[.bool p.s, .int .i64 p.H.toInt, .int .i64 p.L.toInt, .int .i64 p.b] 31, .cells #[] 31, .cells #[.bool p.s, .int .i64 p.H.toInt, .int .i64 p.L.toInt, .int .i64 p.b] 31, .cells #[.slice a n cap] 24] := ⟨_, rfl⟩
  have hw : w4 = allocs w os := by rw [hos]; exact hw4
  have hz : w4.heap.size = w.heap.size + 4 := by rw [hw, allocs_size, hos]; rfl
  have hb : Below w.heap.size w w4 := by rw [hw]; exact allocs_below os w
  have hat : ∀ i o, os[i]? = some o → w4.heap[w.heap.size + i]? = some o := by rw [hw]; exact allocs_at os w
  have hO : OwnR 31 w4 w.heap.size (.slice (some ⟨w.heap.size + 1, 0, none⟩) 0 0) [] := by
    have h0 := own_zero (w.alloc (.cells #[.bool p.s, .int .i64 p.H.toInt, .int .i64 p.L.toInt, .int .i64 p.b] 31)) w.heap.size 31 (by simp)
    rw [World.size_alloc] at h0
    rw [hw4]
    have h1 := (h0.alloc (.cells #[.bool p.s, .int .i64 p.H.toInt, .int .i64 p.L.toInt, .int .i64 p.b] 31)).alloc (.cells #[.slice a n cap] 24)
    exact h1
  subst hos
  have h2 := hat 2 _ rfl
  have h3 := hat 3 _ rfl
  have HIt := HP.out w4 (w.heap.size + 2) (w.heap.size + 3) hb (of4 h2).1 (of1 h3).1 (by omega) (by omega)
  have HC := hidP (appSeq 74 #[.pointer (some ⟨w.heap.size + 2, 0, none⟩), .pointer (some ⟨w.heap.size + 3, 0, none⟩)] (enters_of Try.func74 (by kernel_rfl) rfl) ys hl _ w.heap.size (w.heap.size + 1) w4 HIt (fun k h => by omega) (fun k h => by omega) (by omega) hO)
  have HB := hidP hb
  clear hw4 hw hat hb h2 h3 hO HIt
  go_wp2_with fail
  refine HC.out.mono ?_
  rintro e w5 ⟨a5, c5, rfl, ho5, hb5⟩
  have HO5 := hidP ho5
  have HB5 := hidP (HB.out.trans hb5)
  clear ho5 hb5
  go_wp2_with fail
  go_ret
  exact ⟨_, _, rfl, HO5.out, HB5.out⟩

theorem iWithout_no (p : Pf) (a : Option Addr) (cap : Nat) (ps : List Pf) (w : World) (hB : Row w a ps) (hl : ps.length ≤ 1048576) (hno : (p.pok && rightP ps) = false) :
    Calls Try.prog 14 #[.agg #[.bool p.s, .int .i64 p.H.toInt, .int .i64 p.L.toInt, .int .i64 p.b], .slice a ps.length cap] w fun e w' => ∃ a' c', e = .returned (.slice a' 0 c') ∧ OwnR 31 w' w.heap.size (.slice a' 0 c') [] ∧ Below w.heap.size w w' :=
  iApp p a ps.length cap w [] (left_no p a cap ps w hB hl hno) (by simp)
theorem iWithout_yes (x : Sp) (hx : x.ok) (a : Option Addr) (cap : Nat) (xs : List Sp) (hxs : ∀ t ∈ xs, t.ok) (w : World) (hB : Row w a (xs.map Sp.pre)) (hl : xs.length ≤ 300) :
    Calls Try.prog 14 #[.agg #[.bool x.s, .int .i64 x.H.toInt, .int .i64 x.L.toInt, .int .i64 ((wd x.s : Int) - (x.n : Int))], .slice a xs.length cap] w fun e w' => ∃ a' c', e = .returned (.slice a' (leftM x.n x xs).length c') ∧ OwnR 31 w' w.heap.size (.slice a' (leftM x.n x xs).length c') ((leftM x.n x xs).map Sp.pre) ∧ Below w.heap.size w w' :=
  iApp x.pre a xs.length cap w _ (left_yes x hx a cap xs hxs w hB hl) (by have := left_le hx xs hl; omega)

end Go.Proofs.Ytgohffeneibhdaa
