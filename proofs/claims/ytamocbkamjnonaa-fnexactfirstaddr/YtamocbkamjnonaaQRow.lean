/-
  Rows of addresses, three cells each: how they lie in memory, the laws' copies of them and looks at them, their reading.
-/
import Derived.Test.YtamocbkamjnonaaPEq
import Derived.Test.YtamocbkamjnonaaPOpen
import Derived.Test.YtamocbkamjnonaaBTo
import Derived.Test.YtamocbkamjnonaaBEqA
namespace Go.Proofs.Ytamocbkamjnonaa
open Go.ChangeShapes Go.WideShapes Go.ChangeAt Go.RowKit Go.Joins Go.Deep

structure Ad where
  s : Bool
  H : BitVec 64
  L : BitVec 64

def Ad.cs (p : Ad) : List Value := [.bool p.s, .int .i64 p.H.toInt, .int .i64 p.L.toInt]
theorem Try.threeA : Try.prog.underlying 49 = some (.slice 35) ∧ (Try.prog.info? 35).map (fun i => (i.zero, i.size, i.bytes)) = some (some (.agg #[.bool false, .int .i64 0, .int .i64 0]), 3, 24) := ⟨Try.underlying49, by kernel_rfl⟩

def flatA : List Ad → List Value
  | [] => []
  | p :: t => p.cs ++ flatA t
theorem flatA_len : ∀ ps : List Ad, (flatA ps).length = ps.length * 3
  | [] => rfl
  | p :: t => by simp [flatA, Ad.cs, flatA_len t]; omega
theorem flatA_app : ∀ ps qs : List Ad, flatA (ps ++ qs) = flatA ps ++ flatA qs
  | [], _ => rfl
  | p :: t, qs => by simp [flatA, flatA_app t qs]
theorem flatA_one : ∀ ps : List Ad, ∀ u ∈ flatA ps, u.oneCell' = true
  | [], u, h => by cases h
  | p :: t, u, h => by
      rcases List.mem_append.1 h with h | h
      · simp [Ad.cs] at h
        rcases h with rfl | rfl | rfl <;> rfl
      · exact flatA_one t u h
theorem flatA_at : ∀ (ps : List Ad) (j : Nat) (q : Ad), ps[j]? = some q → (flatA ps)[j * 3]? = some (.bool q.s) ∧ (flatA ps)[j * 3 + 1]? = some (.int .i64 q.H.toInt) ∧ (flatA ps)[j * 3 + 2]? = some (.int .i64 q.L.toInt)
  | [], j, q, h => by simp at h
  | p :: t, 0, q, h => by
      simp at h; subst h; simp [flatA, Ad.cs]
  | p :: t, j + 1, q, h => by
      have := flatA_at t j q (by simpa using h)
      have e : ∀ i, (flatA (p :: t))[(j + 1) * 3 + i]? = (flatA t)[j * 3 + i]? := fun i => by
        show (p.cs ++ flatA t)[(j + 1) * 3 + i]? = _
        rw [List.getElem?_append_right (by simp [Ad.cs]; omega)]
        congr 1
        simp [Ad.cs]; omega
      have e0 := e 0
      rw [Nat.add_zero, Nat.add_zero] at e0
      rw [e0, e 1, e 2]
      exact this

/-- What is read of a row. -/
def RowA (w : World) (a : Option Addr) (ps : List Ad) : Prop := ∀ j, j < ps.length → ∃ p o q, a = some ⟨p, o, none⟩ ∧ p < w.heap.size ∧ ps[j]? = some q ∧
  w.cell? ⟨p, o + j * 3, none⟩ = some (.bool q.s) ∧ w.cell? ⟨p, o + j * 3 + 1, none⟩ = some (.int .i64 q.H.toInt) ∧ w.cell? ⟨p, o + j * 3 + 2, none⟩ = some (.int .i64 q.L.toInt)
/-- A row of one's own. -/
def OwnA (t : TypeId) (w : World) (B : Nat) (v : Value) (ps : List Ad) : Prop := w.ownsRow B t 3 v ps.length (flatA ps)

theorem RowA.later {w w' : World} {a : Option Addr} {ps : List Ad} (h : RowA w a ps) (hb : Below w.heap.size w w') : RowA w' a ps := fun j hj => by
  obtain ⟨p, o, q, ha, hp, hq, c0, c1, c2⟩ := h j hj
  exact ⟨p, o, q, ha, Nat.lt_of_lt_of_le hp hb.size, hq, (hb.cell hp).trans c0, (hb.cell hp).trans c1, (hb.cell hp).trans c2⟩
theorem RowA.nil (w : World) (a : Option Addr) : RowA w a [] := fun j hj => absurd hj (Nat.not_lt_zero j)
theorem OwnA.row {t : TypeId} {w : World} {B n cap : Nat} {a : Option Addr} {ps : List Ad} (h : OwnA t w B (.slice a n cap) ps) : RowA w a ps := fun j hj => by
  rcases h.2 with ⟨hv, hn⟩ | ⟨g, c, cur, hv, _, hg, _⟩
  · omega
  · simp at hv
    obtain ⟨rfl, rfl, rfl⟩ := hv
    have hq : ps[j]? = some ps[j] := List.getElem?_eq_getElem hj
    obtain ⟨c0, c1, c2⟩ := flatA_at ps j _ hq
    have k := fun (i : Nat) (hi : i < 3) => World.ownsRow.cellAt h (j * 3 + i) (by omega : j * 3 + i < ps.length * 3)
    refine ⟨g, 0, ps[j], rfl, ?_, hq, ?_, ?_, ?_⟩
    · rcases Nat.lt_or_ge g w.heap.size with h' | h'
      · exact h'
      · rw [Array.getElem?_eq_none h'] at hg; cases hg
    · have := k 0 (by omega : 0 < 3); rw [Nat.zero_add]; rw [Nat.add_zero] at this; rw [this, c0]
    · have := k 1 (by omega : 1 < 3); rw [Nat.zero_add, this, c1]
    · have := k 2 (by omega : 2 < 3); rw [Nat.zero_add, this, c2]
theorem OwnA.lt {t : TypeId} {w : World} {B : Nat} {v : Value} {ps : List Ad} (h : OwnA t w B v ps) : ∀ k, v.ownBlock = some k → B ≤ k ∧ k < w.heap.size := World.ownsRow.lt h
theorem OwnA.alloc {t : TypeId} {w : World} {B : Nat} {v : Value} {ps : List Ad} (h : OwnA t w B v ps) (o : Obj) : OwnA t (w.alloc o) B v ps := World.ownsRow.alloc h o
theorem OwnA.mono {t : TypeId} {w : World} {B B' : Nat} {v : Value} {ps : List Ad} (h : OwnA t w B v ps) (hb : B' ≤ B) : OwnA t w B' v ps := by
  refine ⟨h.1, ?_⟩
  rcases h.2 with h' | ⟨g, c, cur, h1, h2, h3⟩
  · exact Or.inl h'
  · exact Or.inr ⟨g, c, cur, h1, Nat.le_trans hb h2, h3⟩
theorem OwnA.later {t : TypeId} {w w' : World} {B : Nat} {v : Value} {ps : List Ad} (h : OwnA t w B v ps) (hb : Below w.heap.size w w') : OwnA t w' B v ps := by
  refine ⟨h.1, ?_⟩
  rcases h.2 with h' | ⟨g, c, cur, h1, h2, h3, h4⟩
  · exact Or.inl h'
  · refine Or.inr ⟨g, c, cur, h1, h2, ?_, h4⟩
    have hg : g < w.heap.size := by
      rcases Nat.lt_or_ge g w.heap.size with h' | h'
      · exact h'
      · rw [Array.getElem?_eq_none h'] at h3; cases h3
    exact (hb.block g hg).trans h3
def Ad.zero : Ad := ⟨false, 0, 0⟩

theorem made_three : ∀ n : Nat, (madeCells (Value.agg #[.bool false, .int .i64 0, .int .i64 0]).cells (n * 3)).toList = flatA (List.replicate n Ad.zero) := fun n => by
  apply List.ext_getElem?
  intro j
  by_cases hj : j < n * 3
  · have hq : (List.replicate n Ad.zero)[j / 3]? = some Ad.zero := by rw [List.getElem?_replicate, if_pos (by omega)]
    obtain ⟨f0, f1, f2⟩ := flatA_at _ (j / 3) _ hq
    have e : (madeCells (Value.agg #[.bool false, .int .i64 0, .int .i64 0]).cells (n * 3)).toList[j]? = some ((#[.bool false, .int .i64 0, .int .i64 0] : Array Value)[j % 3]!) := by
      rw [Array.getElem?_toList]
      unfold madeCells
      rw [Array.getElem?_map, Array.getElem?_range, if_pos hj]
      rfl
    rw [e]
    have hm : j % 3 = 0 ∧ j = j / 3 * 3 ∨ j % 3 = 1 ∧ j = j / 3 * 3 + 1 ∨ j % 3 = 2 ∧ j = j / 3 * 3 + 2 := by omega
    rcases hm with ⟨h1, h2⟩ | ⟨h1, h2⟩ | ⟨h1, h2⟩
    · rw [h1]; conv => rhs; rw [h2]
      rw [f0]; rfl
    · rw [h1]; conv => rhs; rw [h2]
      rw [f1]; rfl
    · rw [h1]; conv => rhs; rw [h2]
      rw [f2]; rfl
  · rw [List.getElem?_eq_none (by rw [Array.length_toList, size_madeCells]; omega), List.getElem?_eq_none (by rw [flatA_len, List.length_replicate]; omega)]

/-- One more of the row is copied. -/
theorem copyA_step (ps : List Ad) (k : Nat) (q : Ad) (hk : k < ps.length) (hq : ps[k]? = some q) : (ps.take k ++ List.replicate (ps.length - k) Ad.zero).set k q = ps.take (k + 1) ++ List.replicate (ps.length - (k + 1)) Ad.zero := by
  have e : ps.length - k = ps.length - (k + 1) + 1 := by omega
  rw [e, List.replicate_succ, List.set_append_right _ _ (by rw [List.length_take]; omega)]
  have e2 : k - (ps.take k).length = 0 := by rw [List.length_take]; omega
  rw [e2, List.set_cons_zero, List.take_add_one, hq]
  simp

theorem flatA_set : ∀ (ps : List Ad) (j : Nat) (q : Ad), j < ps.length → (((flatA ps).set (j * 3) (.bool q.s)).set (j * 3 + 1) (.int .i64 q.H.toInt)).set (j * 3 + 2) (.int .i64 q.L.toInt) = flatA (ps.set j q)
  | [], j, q, h => by simp at h
  | p :: t, 0, q, h => by simp [flatA, Ad.cs]
  | p :: t, j + 1, q, h => by
      have ih := flatA_set t j q (by simpa using h)
      have e : ∀ (i : Nat) (l : List Value) (v : Value), (p.cs ++ l).set ((j + 1) * 3 + i) v = p.cs ++ l.set (j * 3 + i) v := fun i l v => by
        rw [List.set_append_right _ _ (by simp [Ad.cs]; omega)]
        congr 2
        simp [Ad.cs]; omega
      have e0 := fun (l : List Value) (v : Value) => e 0 l v
      simp only [Nat.add_zero] at e0
      show (((p.cs ++ flatA t).set ((j + 1) * 3) (.bool q.s)).set ((j + 1) * 3 + 1) (.int .i64 q.H.toInt)).set ((j + 1) * 3 + 2) (.int .i64 q.L.toInt) = p.cs ++ flatA (t.set j q)
      rw [e0, e 1, e 2, ih]

/-- One of a row is written. -/
theorem OwnA.put {t : TypeId} {w : World} {B g n cap : Nat} {ps : List Ad} (h : OwnA t w B (.slice (some ⟨g, 0, none⟩) n cap) ps) (hn : n = ps.length) (j : Nat) (hj : j < n) :
    (w.frozen? ⟨g, j * 3, none⟩ = false ∧ w.frozen? ⟨g, j * 3 + 1, none⟩ = false ∧ w.frozen? ⟨g, j * 3 + 2, none⟩ = false) ∧
    ∀ q : Ad, OwnA t (((w.setCell ⟨g, j * 3, none⟩ (.bool q.s)).setCell ⟨g, j * 3 + 1, none⟩ (.int .i64 q.H.toInt)).setCell ⟨g, j * 3 + 2, none⟩ (.int .i64 q.L.toInt)) B (.slice (some ⟨g, 0, none⟩) n cap) (ps.set j q) := by
  subst hn
  refine ⟨⟨World.ownsRow.frozenAt h _, World.ownsRow.frozenAt h _, World.ownsRow.frozenAt h _⟩, fun q => ?_⟩
  have h0 := (World.ownsRow.stored h (j * 3) (.bool q.s)).1
  have h1 := (World.ownsRow.stored h0 (j * 3 + 1) (.int .i64 q.H.toInt)).1
  have h2 := (World.ownsRow.stored h1 (j * 3 + 2) (.int .i64 q.L.toInt)).1
  rw [flatA_set ps j q hj] at h2
  unfold OwnA
  rw [List.length_set]
  exact h2

set_option maxHeartbeats 1000000 in
theorem toAddrS_any (a : Option Addr) (cap : Nat) (ps : List Ad) (w : World) (hB : RowA w a ps) (hl : ps.length ≤ 1048576) :
    Calls Try.prog 26 #[.slice a ps.length cap] w fun e w' => ∃ g, e = .returned (.slice (some ⟨g, 0, none⟩) ps.length ps.length) ∧ OwnA 35 w' w.heap.size (.slice (some ⟨g, 0, none⟩) ps.length ps.length) ps ∧ Below w.heap.size w w' := by
  obtain ⟨i0, hi, hz0, hz1, hz2⟩ := info_parts Try.threeA.2
  have HB : Hid (RowA w a ps) := hB
  clear hB
  obtain ⟨n, hn⟩ : ∃ n, n = ps.length := ⟨_, rfl⟩
  rw [← hn] at hl ⊢
  have HN : Hid (n = ps.length) := hn
  clear hn
  go_enter Try.func26, Try.ntmps26
  go_wp2_with (refine wpList_make_full _ rfl (.tmp 6) (.tmp 6) 49 rfl w.heap.size 35 i0 _ 3 Try.threeA.1 hi hz0 hz1 .i64 .i64 n n n rfl rfl rfl rfl (by rw [hz2]; omega) (by unfold maxLen; omega) (Nat.le_refl _) ?_; intro w1 hown hgrow)
  have HO : Hid (OwnA 35 w1 w.heap.size (.slice (some ⟨w.heap.size, 0, none⟩) n n) (ps.take 0 ++ List.replicate (ps.length - 0) Ad.zero)) := by
    rw [made_three] at hown
    refine hidP ?_
    unfold OwnA
    rw [Nat.sub_zero, List.take_zero, List.nil_append, List.length_replicate, ← HN.out]; exact hown
  have HW : Hid (Below w.heap.size w w1) := (Below.refl _ w).grown hgrow (Nat.le_refl _) (fun k hk => by cases hk)
  clear hown hgrow
  go_loopw [4] (fun t4 wr => ∃ k : Nat, k ≤ n ∧ t4 = .int .i64 k ∧ OwnA 35 wr w.heap.size (.slice (some ⟨w.heap.size, 0, none⟩) n n) (ps.take k ++ List.replicate (ps.length - k) Ad.zero) ∧ Below w.heap.size w wr) (fun t4 _ => n - (intOf t4).toNat)
  case atStart => exact ⟨0, Nat.zero_le _, rfl, HO.out, HW.out⟩
  case round =>
    obtain ⟨k, hk, rfl, hown, hbel⟩ := hrel
    by_cases hlt : k < n
    · obtain ⟨p, o, q, rfl, hp, hq, c0, c1, c2⟩ := HB.out k (by rw [← HN.out]; exact hlt)
      have d0 := (hbel.cell hp).trans c0
      have d1 := (hbel.cell hp).trans c1
      have d2 := (hbel.cell hp).trans c2
      have HOw := hidP hown
      have HBel := hidP hbel
      have HQ := hidP hq
      clear hown hbel c0 c1 c2 hq HO HW
      go_wp2_with fail
      refine (toAddr_any q.s q.H.toInt q.L.toInt _).mono ?_
      rintro e w2 ⟨rfl, hb2⟩
      have ho2 := HOw.out.later hb2
      obtain ⟨⟨f0, f1, f2⟩, hput⟩ := ho2.put (by rw [List.length_append, List.length_take, List.length_replicate, HN.out]; have := HN.out; omega) k hlt
      have hput' := hput q
      rw [copyA_step ps k q (by rw [← HN.out]; exact hlt) HQ.out] at hput'
      have HP := hidP hput'
      obtain ⟨p', o', q', e', hp', _, e0, e1, e2⟩ := ho2.row k (by rw [List.length_append, List.length_take, List.length_replicate]; have := HN.out; omega)
      simp only [Option.some.injEq, Addr.mk.injEq, and_true] at e'
      obtain ⟨rfl, rfl⟩ := e'
      rw [Nat.zero_add] at e0 e1 e2
      have HBel2 := hidP (HBel.out.trans (hb2.mono HBel.out.size))
      clear hput hput' ho2 hb2 HBel HOw d0 d1 d2
      go_wp2_with fail
      go_roundw
      case rel => exact ⟨k + 1, by omega, by go_num, HP.out, ((HBel2.out.setCell (Nat.le_refl _) _).setCell (Nat.le_refl _) _).setCell (Nat.le_refl _) _⟩
      case measure => simp [intOf]; omega
    · have hkn : k = n := by omega
      subst hkn
      have HO2 : Hid (OwnA 35 wr w.heap.size (.slice (some ⟨w.heap.size, 0, none⟩) k k) ps) := by
        have e := HN.out
        rw [e, List.take_length, Nat.sub_self, List.replicate_zero, List.append_nil] at hown
        rw [← e] at hown
        exact hidP hown
      have HBel : Hid (Below w.heap.size w wr) := hbel
      clear hown hbel HO HW
      go_wp2
      go_ret
      exact ⟨_, rfl, HO2.out, HBel.out⟩

set_option maxHeartbeats 1000000 in
theorem eqAddrS_same (a b : Option Addr) (c d : Nat) (ps : List Ad) (w : World) (ha : RowA w a ps) (hb : RowA w b ps) (hl : ps.length ≤ 9000000000) :
    Calls Try.prog 29 #[.slice a ps.length c, .slice b ps.length d] w fun e w' => e = .returned (.bool true) ∧ Below w.heap.size w w' := by
  obtain ⟨n, hn⟩ : ∃ n, n = ps.length := ⟨_, rfl⟩
  rw [← hn] at hl ⊢
  have HA := hidP ha
  have HB := hidP hb
  have HN := hidP hn
  clear ha hb hn
  go_enter Try.func29, Try.ntmps29
  go_wp2
  go_loopw [5] (fun t5 wr => ∃ k : Nat, k ≤ n ∧ t5 = .int .i64 k ∧ Below w.heap.size w wr) (fun t5 _ => n - (intOf t5).toNat)
  case atStart => exact ⟨0, Nat.zero_le _, rfl, Below.refl _ _⟩
  case round =>
    obtain ⟨k, hk, rfl, hbel⟩ := hrel
    have HW := hidP hbel
    by_cases hlt : k < n
    · obtain ⟨p, o, q, rfl, hp, hq, c0, c1, c2⟩ := HA.out k (by rw [← HN.out]; exact hlt)
      obtain ⟨p', o', q', rfl, hp', hq', d0, d1, d2⟩ := HB.out k (by rw [← HN.out]; exact hlt)
      rw [hq] at hq'
      cases hq'
      have c0' := (hbel.cell hp).trans c0
      have c1' := (hbel.cell hp).trans c1
      have c2' := (hbel.cell hp).trans c2
      have d0' := (hbel.cell hp').trans d0
      have d1' := (hbel.cell hp').trans d1
      have d2' := (hbel.cell hp').trans d2
      clear c0 c1 c2 d0 d1 d2 hq hbel
      go_wp2_with fail
      go_region_with (first | (go_at_call 28; refine (eqA_same q.s q.H.toInt q.L.toInt _).mono ?_; rintro e w2 ⟨rfl, hb2⟩))
      all_goals
        have HW2 := hidP (HW.out.drew.trans (hb2.mono HW.out.drew.size))
        clear hb2
        go_wp2
        go_roundw
        case rel => exact ⟨k + 1, by omega, by go_num, HW2.out⟩
        case measure => simp [intOf]; omega
    · have hkn : k = n := by omega
      subst hkn
      clear hbel
      go_wp2
      go_ret
      exact ⟨rfl, HW.out⟩

set_option maxHeartbeats 1000000 in
theorem szAddrS_any (a : Option Addr) (n cap : Nat) (hn : n ≤ 1048576) (w : World) :
    Calls Try.prog 24 #[.slice a n cap, .int .i64 1048576] w fun e w' => e = .returned (.int .i64 (1048576 - (n : Int))) ∧ w = w' := by
  have d : decide (1048576 - (n : Int) < 0) = false := decide_eq_false (by omega)
  go_enter Try.func24, Try.ntmps24
  go_wp2
  go_ret
  exact ⟨rfl, rfl⟩
set_option maxHeartbeats 1000000 in
theorem szAddrS_big (a : Option Addr) (n cap : Nat) (hn : 1048576 < n) (h9 : n ≤ 9223372036854775807) (w : World) :
    Calls Try.prog 24 #[.slice a n cap, .int .i64 1048576] w fun e w' => e = .returned (.int .i64 (-1)) ∧ w = w' := by
  have d : decide (1048576 - (n : Int) < 0) = true := decide_eq_true (by omega)
  go_enter Try.func24, Try.ntmps24
  go_wp2
  go_ret
  exact ⟨rfl, rfl⟩

theorem ad_of {H : Type} {enc : TypeId × Value → H} {W : World} {fuel : Nat} {cs : List Value} {x : DataW H × List MemPlace} (hl : cs.length = 3)
    (h : DataW.trod enc Try.prog W 0 (fun _ => true) true fuel 31 cs = some x) : ∃ q : Ad, cs = q.cs := by
  match cs, hl with
  | [c0, c1, c2], _ =>
    obtain ⟨y0, y1, y2, m, hy, _, j0, j1, j2⟩ := trod_struct3 Try.underlying31 h
    have ki : Try.prog.cellsOf 3 = 1 := by kernel_rfl
    have kb : Try.prog.cellsOf 4 = 1 := by kernel_rfl
    simp [ki, kb] at j0 j1 j2
    obtain ⟨s, e0, _⟩ := DataW.trod_bool Try.underlying4 j0
    obtain ⟨a, e1, _, wa⟩ := DataW.trod_int Try.underlying3 j1
    obtain ⟨b, e2, _, wb⟩ := DataW.trod_int Try.underlying3 j2
    simp at e0 e1 e2
    subst e0 e1 e2
    refine ⟨⟨s, BitVec.ofInt 64 a, BitVec.ofInt 64 b⟩, ?_⟩
    unfold Ad.cs
    rw [wfP wa, wfP wb]

theorem rowsA_of {W : World} (a : Option Addr) : ∀ n : Nat, (∀ j, j < n → ∃ p o q, a = some ⟨p, o, none⟩ ∧ p < W.heap.size ∧ W.cell? ⟨p, o + j * 3, none⟩ = some (.bool (Ad.s q)) ∧ W.cell? ⟨p, o + j * 3 + 1, none⟩ = some (.int .i64 q.H.toInt) ∧ W.cell? ⟨p, o + j * 3 + 2, none⟩ = some (.int .i64 q.L.toInt)) → ∃ ps : List Ad, ps.length = n ∧ RowA W a ps
  | 0, _ => ⟨[], rfl, RowA.nil _ _⟩
  | n + 1, h => by
      obtain ⟨ps, hl, hb⟩ := rowsA_of a n (fun j hj => h j (by omega))
      obtain ⟨p, o, q, ha, hp, c0, c1, c2⟩ := h n (by omega)
      refine ⟨ps ++ [q], by simp [hl], fun j hj => ?_⟩
      by_cases hjn : j < n
      · obtain ⟨p', o', z, ha', hp', hz, hc'⟩ := hb j (by omega)
        exact ⟨p', o', z, ha', hp', by rw [List.getElem?_append_left (by omega)]; exact hz, hc'⟩
      · have : j = n := by simp at hj; omega
        subst this
        exact ⟨p, o, q, ha, hp, by rw [List.getElem?_append_right (by omega), hl]; simp, c0, c1, c2⟩

set_option maxRecDepth 100000 in
/-- The prefixes out of the reading of a row of them. -/
theorem rowA_open {H : Type} {enc : TypeId × Value → H} {W : World} {a : Option Addr} {len cap : Nat} {d : DataW H} {p : List MemPlace}
    (h : DataW.Trod enc Try.prog W 0 (fun _ => true) true 45 (.slice a len cap) d p) : ∃ ps : List Ad, ps.length = len ∧ len ≤ 9223372036854775807 ∧ RowA W a ps := by
  obtain ⟨fuel, hf⟩ := h
  rcases open_slice Try.underlying45 hf with ⟨hcs, _⟩ | ⟨a', len', cap', m, n, D, Pl, hcs, _, hl, hmx, hm, _, hV⟩
  · simp [Value.cells] at hcs
    obtain ⟨rfl, rfl, rfl⟩ := hcs
    exact ⟨[], rfl, by omega, RowA.nil _ _⟩
  · simp [Value.cells] at hcs
    obtain ⟨rfl, rfl, rfl⟩ := hcs
    suffices h9 : ∃ ps : List Ad, ps.length = len ∧ RowA W (some a') ps by
      obtain ⟨ps, h1, h2⟩ := h9
      exact ⟨ps, h1, by unfold maxLen at hmx; omega, h2⟩
    refine rowsA_of _ _ fun j hj => ?_
    simp at hm
    obtain ⟨cs', h1, h2⟩ := hV j (by omega)
    rw [Try.cellsPA] at h1
    obtain ⟨_, hlen, hcell⟩ := World.cells?_some h1
    obtain ⟨q, rfl⟩ := ad_of hlen h2
    obtain ⟨p', o', sp⟩ := a'
    cases sp with
    | some r =>
      exfalso
      obtain ⟨cs0, g1, g2⟩ := hV 0 (by omega)
      rw [Try.cellsPA] at g1
      obtain ⟨_, glen, gcell⟩ := World.cells?_some g1
      obtain ⟨q0, rfl⟩ := ad_of glen g2
      have h0 := gcell 0 (by omega)
      rw [Nat.zero_mul, show Addr.add (Addr.add ⟨p', o', some r⟩ 0) 0 = ⟨p', o', some r⟩ from rfl] at h0
      unfold World.cell? at h0
      split at h0
      · simp [Ad.cs] at h0
      · cases h0
    | none =>
      have e0 := hcell 0 (by omega)
      have e1 := hcell 1 (by omega)
      have e2 := hcell 2 (by omega)
      have ea : ∀ i k : Nat, Addr.add (Addr.add ⟨p', o', none⟩ i) k = ⟨p', o' + i + k, none⟩ := fun i k => by
        have ea1 : ∀ (o k : Nat), Addr.add ⟨p', o, none⟩ k = ⟨p', o + k, none⟩ := fun o k => by unfold Addr.add; split <;> simp_all
        rw [ea1, ea1]
      rw [ea] at e0 e1 e2
      rw [Nat.add_zero] at e0
      have hc0 : W.cell? ⟨p', o' + j * 3, none⟩ = some (.bool q.s) := e0
      exact ⟨p', o', q, rfl, World.block_lt_of_cell? W _ hc0, hc0, e1, e2⟩

end Go.Proofs.Ytamocbkamjnonaa
