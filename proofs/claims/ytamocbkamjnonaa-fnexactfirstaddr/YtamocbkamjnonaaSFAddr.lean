/-
  The specification's FirstAddr: the least place of a block whose address is not among those that are used.
-/
import Derived.Test.YtamocbkamjnonaaQRow
import Derived.Test.YtamocbkamjnonaaQNth
import Derived.Test.YtamocbkamjnonaaIRoom
namespace Go.Proofs.Ytamocbkamjnonaa
open Go.RowKit

theorem pig (a : Nat) : ∀ (m : Nat) (l : List Nat), (∀ j, j < m → a + j ∈ l) → m ≤ l.length
  | 0, _, _ => Nat.zero_le _
  | m + 1, l, h => by
      have hm := h m (Nat.lt_succ_self m)
      have ih := pig a m (l.erase (a + m)) fun j hj => (List.mem_erase_of_ne (by omega)).2 (h j (by omega))
      rw [List.length_erase_of_mem hm] at ih
      have : 0 < l.length := List.length_pos_of_mem hm
      omega

def Ad.adr (u : Ad) : Nat := adrN u.H u.L
/-- What FirstAddr is to answer. -/
def FAns (x : Sp) (us : List Ad) (V : Value) : Prop :=
  (∃ (X Y : BitVec 64) (m : Nat), m < 2 ^ x.n ∧ adrN X Y = x.adr + m ∧ (∀ u ∈ us, u.s = x.s → u.adr ≠ x.adr + m) ∧ (∀ j, j < m → ∃ u ∈ us, u.s = x.s ∧ u.adr = x.adr + j) ∧ V = .tuple #[.agg #[.bool x.s, .int .i64 X.toInt, .int .i64 Y.toInt], .bool true]) ∨
  ((∀ m, m < 2 ^ x.n → ∃ u ∈ us, u.s = x.s ∧ u.adr = x.adr + m) ∧ V = .tuple #[.agg #[.bool false, .int .i64 0, .int .i64 0], .bool false])
theorem fans_one {x : Sp} {us : List Ad} {V V' : Value} (h : FAns x us V) (h' : FAns x us V') : V = V' := by
  rcases h with ⟨X, Y, m, hm, ha, hf, hb, rfl⟩ | ⟨hall, rfl⟩
  · rcases h' with ⟨X', Y', m', hm', ha', hf', hb', rfl⟩ | ⟨hall', rfl⟩
    · have e : m = m' := by
        rcases Nat.lt_trichotomy m m' with h | h | h
        · obtain ⟨u, hu, hs, he⟩ := hb' m h
          exact absurd he (hf u hu hs)
        · exact h
        · obtain ⟨u, hu, hs, he⟩ := hb m' h
          exact absurd he (hf' u hu hs)
      subst e
      obtain ⟨rfl, rfl⟩ := adrN_inj (ha.trans ha'.symm)
      rfl
    · obtain ⟨u, hu, hs, he⟩ := hall' m hm
      exact absurd he (hf u hu hs)
  · rcases h' with ⟨X', Y', m', hm', ha', hf', hb', rfl⟩ | ⟨hall', rfl⟩
    · obtain ⟨u, hu, hs, he⟩ := hall m' hm'
      exact absurd he (hf' u hu hs)
    · rfl

theorem set3 {V : World} {k : Nat} {a b c a' b' c' : Value} {t : TypeId} (h : V.heap[k]? = some (.cells #[a, b, c] t)) : (((V.setCell ⟨k, 0, none⟩ a').setCell ⟨k, 1, none⟩ b').setCell ⟨k, 2, none⟩ c').heap[k]? = some (.cells #[a', b', c'] t) := by
  simp [World.setCell, Array.getElem?_modify, h]
theorem of3 {V : World} {k : Nat} {a b c : Value} {t : TypeId} (h : V.heap[k]? = some (.cells #[a, b, c] t)) : (V.cell? ⟨k, 0, none⟩ = some a ∧ V.cell? ⟨k, 1, none⟩ = some b ∧ V.cell? ⟨k, 2, none⟩ = some c) ∧ V.frozen? ⟨k, 0, none⟩ = false ∧ V.frozen? ⟨k, 1, none⟩ = false ∧ V.frozen? ⟨k, 2, none⟩ = false := by
  refine ⟨⟨?_, ?_, ?_⟩, ?_, ?_, ?_⟩ <;> simp [World.cell?, World.frozen?, h]

def eqU (s : Bool) (X Y : BitVec 64) (u : Ad) : Bool := u.s == s && (u.H == X && u.L == Y)
theorem eqU_iff (s : Bool) (X Y : BitVec 64) (u : Ad) : eqU s X Y u = true ↔ u.s = s ∧ u.adr = adrN X Y := by
  unfold eqU
  rw [Bool.and_eq_true, Bool.and_eq_true, beq_iff_eq, beq_iff_eq, beq_iff_eq]
  constructor
  · rintro ⟨h1, h2, h3⟩; exact ⟨h1, by unfold Ad.adr; rw [h2, h3]⟩
  · rintro ⟨h1, h2⟩; exact ⟨h1, adrN_inj h2⟩

set_option maxRecDepth 10000 in
set_option maxHeartbeats 4000000 in
theorem sFA_yes (x : Sp) (hx : x.ok) (a : Option Addr) (n cap : Nat) (us : List Ad) (hn : n = us.length) (w : World) (hB : RowA w a us) (hl : n ≤ 300) :
    Calls Try.prog 25 #[.agg #[.bool x.s, .int .i64 x.H.toInt, .int .i64 x.L.toInt, .int .i64 ((wd x.s : Int) - (x.n : Int))], .slice a n cap] w fun e w' => ∃ V, e = .returned V ∧ FAns x us V ∧ Below w.heap.size w w' := by
  have hp := sPrefixOk_any x.s x.H x.L ((wd x.s : Int) - (x.n : Int))
  rw [hx.pok] at hp
  have HP := hidP hp
  have HB := hidP hB
  have HN := hidP hn
  have HX := hidP hx
  clear hB hn hx hp
  go_enter Try.func25, Try.ntmps25
  go_wp2_with fail
  obtain ⟨os, hos⟩ : ∃ os : List Obj, os = [.cells #[.bool x.s, .int .i64 x.H.toInt, .int .i64 x.L.toInt, .int .i64 ((wd x.s : Int) - (x.n : Int))] 37, .cells #[.bool false, .int .i64 0, .int .i64 0] 35] := ⟨_, rfl⟩
  obtain ⟨W, hW⟩ : ∃ W, W = allocs w os := ⟨_, rfl⟩
  have hWe : (w.alloc (.cells #[.bool x.s, .int .i64 x.H.toInt, .int .i64 x.L.toInt, .int .i64 ((wd x.s : Int) - (x.n : Int))] 37)).alloc (.cells #[.bool false, .int .i64 0, .int .i64 0] 35) = W := by rw [hW, hos]; rfl
  have hb1 : Below w.heap.size w W := by rw [hW]; exact allocs_below os w
  have hsz : W.heap.size = w.heap.size + 2 := by rw [hW, allocs_size, hos]; rfl
  have h0 : W.heap[w.heap.size]? = some (.cells #[.bool x.s, .int .i64 x.H.toInt, .int .i64 x.L.toInt, .int .i64 ((wd x.s : Int) - (x.n : Int))] 37) := by rw [hW]; exact allocs_at os w 0 _ (by rw [hos]; rfl)
  have h1 : W.heap[w.heap.size + 1]? = some (.cells #[.bool false, .int .i64 0, .int .i64 0] 35) := by rw [hW]; exact allocs_at os w 1 _ (by rw [hos]; rfl)
  rw [hWe]
  have HB1 := hidP hb1
  have H0 := hidP h0
  have H1 := hidP h1
  clear hW hWe hos hb1 h0 h1
  refine (HP.out W).mono ?_
  rintro e w2 ⟨rfl, hb2⟩
  have H02 := hidP ((hb2.block _ (lt_heap H0.out)).trans H0.out)
  have H12 := hidP ((hb2.block _ (lt_heap H1.out)).trans H1.out)
  have HB2 := hidP (HB1.out.trans (hb2.mono HB1.out.size))
  have hz2 := hb2.size
  clear hb2 H0 H1
  go_wp2_with fail
  go_loopw [6] (fun t6 wr => ∃ i : Nat, i ≤ n + 1 ∧ t6 = .int .i64 i ∧ (∀ j, j < i → j < 2 ^ x.n ∧ ∃ u ∈ us, u.s = x.s ∧ u.adr = x.adr + j) ∧ Below w2.heap.size w2 wr) (fun t6 _ => n + 1 - (intOf t6).toNat)
  case atStart => exact ⟨0, Nat.zero_le _, rfl, fun j hj => absurd hj (Nat.not_lt_zero j), Below.refl _ _⟩
  case round =>
    obtain ⟨i9, hi9, rfl, hall, hbr⟩ := hrel
    have HAll := hidP hall
    have HBr := hidP hbr
    have hzr := hbr.size
    have j0 := (hbr.block _ (lt_heap H02.out)).trans H02.out
    have j1 := (hbr.block _ (lt_heap H12.out)).trans H12.out
    obtain ⟨⟨d0, d1, d2, d3⟩, _⟩ := of4 j0
    have lz0 := lt_heap j0
    have J1 := hidP j1
    clear hall hbr j0 j1
    by_cases hle : i9 ≤ n
    · by_cases hpl : i9 < 2 ^ x.n
      · obtain ⟨X9, Y9, ha9, hok9, hc9⟩ := nth_yes HX.out i9 hpl (by omega)
        have HC := hidP hc9
        have HA9 := hidP ha9
        clear hc9 ha9 hok9
        go_wp2_with fail
        refine (HC.out _).mono ?_
        rintro e w3 ⟨rfl, hb3⟩
        have HB3 := hidP (HBr.out.trans (hb3.mono HBr.out.size))
        have hz3 := hb3.size
        clear hb3
        go_wp2_with fail
        have hna := World.alloc_heap_new w3 (.cells #[.bool x.s, .int .i64 X9.toInt, .int .i64 Y9.toInt] 35)
        have hba : Below w3.heap.size w3 (w3.alloc (.cells #[.bool x.s, .int .i64 X9.toInt, .int .i64 Y9.toInt] 35)) := (Below.refl _ _).alloc (Nat.le_refl _) _
        have hsa : (w3.alloc (.cells #[.bool x.s, .int .i64 X9.toInt, .int .i64 Y9.toInt] 35)).heap.size = w3.heap.size + 1 := by simp
        generalize w3.alloc (.cells #[.bool x.s, .int .i64 X9.toInt, .int .i64 Y9.toInt] 35) = wa at *
        obtain ⟨Ba, hBa⟩ : ∃ Ba, Ba = w3.heap.size := ⟨_, rfl⟩
        rw [← hBa] at hna ⊢
        have HNa := hidP hna
        have HBa := hidP (HB3.out.trans (hba.mono HB3.out.size))
        have hlba : Ba < wa.heap.size := by omega
        clear hna hba hBa hsa
        go_loopw [9, 10] (fun t9 t10 wr2 => ∃ i : Nat, i ≤ n ∧ t10 = .int .i64 i ∧ t9 = .bool ((us.take i).any (eqU x.s X9 Y9)) ∧ Below wa.heap.size wa wr2) (fun _ t10 _ => n - (intOf t10).toNat)
        case atStart => exact ⟨0, Nat.zero_le _, rfl, by simp, Below.refl _ _⟩
        case round =>
          obtain ⟨i, hi, rfl, rfl, hbr2⟩ := hrel
          have HBr2 := hidP hbr2
          have k1 := (hbr2.block _ (lt_heap HNa.out)).trans HNa.out
          obtain ⟨⟨y0, y1, y2⟩, _⟩ := of3 k1
          have lzb := lt_heap k1
          clear hbr2 k1
          by_cases hlt : i < n
          · obtain ⟨p, o, u, rfl, hp, hu, e0, e1, e2⟩ := HB.out i (by rw [← HN.out]; exact hlt)
            have hbw := (HB2.out.trans (HBa.out.mono HB2.out.size)).trans (HBr2.out.mono (Nat.le_trans HB2.out.size HBa.out.size))
            have x0 := (hbw.cell (p := ⟨p, o + i * 3, none⟩) hp).trans e0
            have x1 := (hbw.cell (p := ⟨p, o + i * 3 + 1, none⟩) hp).trans e1
            have x2 := (hbw.cell (p := ⟨p, o + i * 3 + 2, none⟩) hp).trans e2
            have lzp : p < wr.heap.size := Nat.lt_of_lt_of_le hp hbw.size
            have HT : Hid ((us.take (i + 1)).any (eqU x.s X9 Y9) = ((us.take i).any (eqU x.s X9 Y9) || eqU x.s X9 Y9 u)) := hidP (by rw [List.take_add_one, hu, List.any_append]; simp)
            have HBd := hidP HBr2.out.drew
            clear e0 e1 e2 hu hbw
            cases hta : (us.take i).any (eqU x.s X9 Y9)
            · rw [hta, Bool.false_or] at HT
              by_cases a1 : u.s = x.s
              · by_cases a2 : u.H.toInt = X9.toInt
                · by_cases a3 : u.L.toInt = Y9.toInt
                  · have HE : Hid (eqU x.s X9 Y9 u = true) := hidP (by rw [eqU_iff]; exact ⟨a1, by unfold Ad.adr; rw [BitVec.eq_of_toInt_eq a2, BitVec.eq_of_toInt_eq a3]⟩)
                    rw [HE.out] at HT
                    clear HE
                    go_wp2_with fail
                    refine wp_region_held_drew (S := (fun Z => Z.cell? ⟨p, o + i * 3, none⟩ = some (.bool u.s) ∧ Z.cell? ⟨p, o + i * 3 + 1, none⟩ = some (.int .i64 u.H.toInt) ∧ Z.cell? ⟨p, o + i * 3 + 2, none⟩ = some (.int .i64 u.L.toInt) ∧ Z.cell? ⟨Ba, 0, none⟩ = some (.bool x.s) ∧ Z.cell? ⟨Ba, 1, none⟩ = some (.int .i64 X9.toInt) ∧ Z.cell? ⟨Ba, 2, none⟩ = some (.int .i64 Y9.toInt))) (by kernel_rfl) ?_ (fun hHeld => ?_)
                    · exact ⟨x0, x1, x2, y0, y1, y2⟩
                    refine wpAnyH_take (i := 0) (oi := ⟨some 40, _, _, _, _, _⟩) (v := ?_) rfl (by kernel_rfl) (by kernel_rfl) (by kernel_rfl) (fun _ _ _ h => h) (Or.inl ⟨by rfl, ?_⟩) (by assumption) ?_
                    rotate_left
                    · intro w hSw
                      try dsimp only at hSw
                      go_simp
                      try with_reducible rfl
                    simp only [Act.put, List.setIfInBounds_toArray, List.set_cons_zero, List.set_cons_succ]
                    refine wpAnyH_take (i := 1) (oi := ⟨some 41, _, _, _, _, _⟩) (v := ?_) rfl (by kernel_rfl) (by kernel_rfl) (by kernel_rfl) (fun _ _ _ h => h) (Or.inl ⟨by rfl, ?_⟩) (by assumption) ?_
                    rotate_left
                    · intro w hSw
                      try dsimp only at hSw
                      go_simp
                      try with_reducible rfl
                    simp only [Act.put, List.setIfInBounds_toArray, List.set_cons_zero, List.set_cons_succ]
                    refine wpAnyH_take (i := 2) (oi := ⟨some 42, _, _, _, _, _⟩) (v := ?_) rfl (by kernel_rfl) (by kernel_rfl) (by kernel_rfl) (fun _ _ _ h => h) (Or.inl ⟨by rfl, ?_⟩) (by assumption) ?_
                    rotate_left
                    · intro w hSw
                      try dsimp only at hSw
                      go_simp
                      try with_reducible rfl
                    simp only [Act.put, List.setIfInBounds_toArray, List.set_cons_zero, List.set_cons_succ]
                    refine wpAnyH_take (i := 3) (oi := ⟨some 43, _, _, _, _, _⟩) (v := ?_) rfl (by kernel_rfl) (by kernel_rfl) (by kernel_rfl) (fun _ _ _ h => h) (Or.inl ⟨by rfl, ?_⟩) (by assumption) ?_
                    rotate_left
                    · intro w hSw
                      try dsimp only at hSw
                      go_simp
                      try with_reducible rfl
                    simp only [Act.put, List.setIfInBounds_toArray, List.set_cons_zero, List.set_cons_succ]
                    refine wpAnyH_take (i := 4) (oi := ⟨some 44, _, _, _, _, _⟩) (v := ?_) rfl (by kernel_rfl) (by kernel_rfl) (by kernel_rfl) (fun _ _ _ h => h) (Or.inl ⟨by rfl, ?_⟩) (by assumption) ?_
                    rotate_left
                    · intro w hSw
                      try dsimp only at hSw
                      go_simp
                      try with_reducible rfl
                    simp only [Act.put, List.setIfInBounds_toArray, List.set_cons_zero, List.set_cons_succ]
                    refine wpAnyH_take (i := 5) (oi := ⟨some 45, _, _, _, _, _⟩) (v := ?_) rfl (by kernel_rfl) (by kernel_rfl) (by kernel_rfl) (fun _ _ _ h => h) (Or.inl ⟨by rfl, ?_⟩) (by assumption) ?_
                    rotate_left
                    · intro w hSw
                      try dsimp only at hSw
                      go_simp
                      try with_reducible rfl
                    simp only [Act.put, List.setIfInBounds_toArray, List.set_cons_zero, List.set_cons_succ]
                    refine wpAnyH_take (i := 6) (oi := ⟨some 46, _, _, _, _, _⟩) (v := ?_) rfl (by kernel_rfl) (by kernel_rfl) (by kernel_rfl) (fun _ _ _ h => h) (Or.inl ⟨by rfl, ?_⟩) (by assumption) ?_
                    rotate_left
                    · intro w hSw
                      try dsimp only at hSw
                      go_simp
                      try with_reducible rfl
                    simp only [Act.put, List.setIfInBounds_toArray, List.set_cons_zero, List.set_cons_succ]
                    refine wpAnyH_take (i := 7) (oi := ⟨some 47, _, _, _, _, _⟩) (v := ?_) rfl (by kernel_rfl) (by kernel_rfl) (by kernel_rfl) (fun _ _ _ h => h) (Or.inl ⟨by rfl, ?_⟩) (by assumption) ?_
                    rotate_left
                    · intro w hSw
                      try dsimp only at hSw
                      go_simp
                      try with_reducible rfl
                    simp only [Act.put, List.setIfInBounds_toArray, List.set_cons_zero, List.set_cons_succ]
                    refine wpAnyH_take (i := 8) (oi := ⟨some 48, _, _, _, _, _⟩) (v := ?_) rfl (by kernel_rfl) (by kernel_rfl) (by kernel_rfl) (fun _ _ _ h => h) (Or.inl ⟨by rfl, ?_⟩) (by assumption) ?_
                    rotate_left
                    · intro w hSw
                      try dsimp only at hSw
                      go_simp
                      try with_reducible rfl
                    simp only [Act.put, List.setIfInBounds_toArray, List.set_cons_zero, List.set_cons_succ]
                    refine wpAnyH_take (i := 9) (oi := ⟨some 9, _, _, _, _, _⟩) (v := ?_) rfl (by kernel_rfl) (by kernel_rfl) (by kernel_rfl) (fun _ _ _ h => h) (Or.inl ⟨by rfl, ?_⟩) (by assumption) ?_
                    rotate_left
                    · intro w hSw
                      try dsimp only at hSw
                      go_simp
                      try with_reducible rfl
                    simp only [Act.put, List.setIfInBounds_toArray, List.set_cons_zero, List.set_cons_succ]
                    refine wpAnyH_done (by kernel_rfl) ?_ _
                    go_wp2_with fail
                    go_roundw
                    case rel => exact ⟨i + 1, by omega, by go_num, by first | rw [HT.out] | (rw [HT.out]; rfl), HBd.out⟩
                    case measure => simp [intOf]; omega
                  · have HE : Hid (eqU x.s X9 Y9 u = false) := hidP (by unfold eqU; rw [Bool.eq_false_iff]; intro h; rw [Bool.and_eq_true, Bool.and_eq_true, beq_iff_eq, beq_iff_eq, beq_iff_eq] at h; exact a3 (by rw [h.2.2]))
                    rw [HE.out] at HT
                    clear HE
                    go_wp2_with fail
                    refine wp_region_held_drew (S := (fun Z => Z.cell? ⟨p, o + i * 3, none⟩ = some (.bool u.s) ∧ Z.cell? ⟨p, o + i * 3 + 1, none⟩ = some (.int .i64 u.H.toInt) ∧ Z.cell? ⟨p, o + i * 3 + 2, none⟩ = some (.int .i64 u.L.toInt) ∧ Z.cell? ⟨Ba, 0, none⟩ = some (.bool x.s) ∧ Z.cell? ⟨Ba, 1, none⟩ = some (.int .i64 X9.toInt) ∧ Z.cell? ⟨Ba, 2, none⟩ = some (.int .i64 Y9.toInt))) (by kernel_rfl) ?_ (fun hHeld => ?_)
                    · exact ⟨x0, x1, x2, y0, y1, y2⟩
                    refine wpAnyH_take (i := 0) (oi := ⟨some 40, _, _, _, _, _⟩) (v := ?_) rfl (by kernel_rfl) (by kernel_rfl) (by kernel_rfl) (fun _ _ _ h => h) (Or.inl ⟨by rfl, ?_⟩) (by assumption) ?_
                    rotate_left
                    · intro w hSw
                      try dsimp only at hSw
                      go_simp
                      try with_reducible rfl
                    simp only [Act.put, List.setIfInBounds_toArray, List.set_cons_zero, List.set_cons_succ]
                    refine wpAnyH_take (i := 1) (oi := ⟨some 41, _, _, _, _, _⟩) (v := ?_) rfl (by kernel_rfl) (by kernel_rfl) (by kernel_rfl) (fun _ _ _ h => h) (Or.inl ⟨by rfl, ?_⟩) (by assumption) ?_
                    rotate_left
                    · intro w hSw
                      try dsimp only at hSw
                      go_simp
                      try with_reducible rfl
                    simp only [Act.put, List.setIfInBounds_toArray, List.set_cons_zero, List.set_cons_succ]
                    refine wpAnyH_take (i := 2) (oi := ⟨some 42, _, _, _, _, _⟩) (v := ?_) rfl (by kernel_rfl) (by kernel_rfl) (by kernel_rfl) (fun _ _ _ h => h) (Or.inl ⟨by rfl, ?_⟩) (by assumption) ?_
                    rotate_left
                    · intro w hSw
                      try dsimp only at hSw
                      go_simp
                      try with_reducible rfl
                    simp only [Act.put, List.setIfInBounds_toArray, List.set_cons_zero, List.set_cons_succ]
                    refine wpAnyH_take (i := 3) (oi := ⟨some 43, _, _, _, _, _⟩) (v := ?_) rfl (by kernel_rfl) (by kernel_rfl) (by kernel_rfl) (fun _ _ _ h => h) (Or.inl ⟨by rfl, ?_⟩) (by assumption) ?_
                    rotate_left
                    · intro w hSw
                      try dsimp only at hSw
                      go_simp
                      try with_reducible rfl
                    simp only [Act.put, List.setIfInBounds_toArray, List.set_cons_zero, List.set_cons_succ]
                    refine wpAnyH_take (i := 4) (oi := ⟨some 44, _, _, _, _, _⟩) (v := ?_) rfl (by kernel_rfl) (by kernel_rfl) (by kernel_rfl) (fun _ _ _ h => h) (Or.inl ⟨by rfl, ?_⟩) (by assumption) ?_
                    rotate_left
                    · intro w hSw
                      try dsimp only at hSw
                      go_simp
                      try with_reducible rfl
                    simp only [Act.put, List.setIfInBounds_toArray, List.set_cons_zero, List.set_cons_succ]
                    refine wpAnyH_take (i := 5) (oi := ⟨some 45, _, _, _, _, _⟩) (v := ?_) rfl (by kernel_rfl) (by kernel_rfl) (by kernel_rfl) (fun _ _ _ h => h) (Or.inl ⟨by rfl, ?_⟩) (by assumption) ?_
                    rotate_left
                    · intro w hSw
                      try dsimp only at hSw
                      go_simp
                      try with_reducible rfl
                    simp only [Act.put, List.setIfInBounds_toArray, List.set_cons_zero, List.set_cons_succ]
                    refine wpAnyH_take (i := 6) (oi := ⟨some 46, _, _, _, _, _⟩) (v := ?_) rfl (by kernel_rfl) (by kernel_rfl) (by kernel_rfl) (fun _ _ _ h => h) (Or.inl ⟨by rfl, ?_⟩) (by assumption) ?_
                    rotate_left
                    · intro w hSw
                      try dsimp only at hSw
                      go_simp
                      try with_reducible rfl
                    simp only [Act.put, List.setIfInBounds_toArray, List.set_cons_zero, List.set_cons_succ]
                    refine wpAnyH_take (i := 7) (oi := ⟨some 47, _, _, _, _, _⟩) (v := ?_) rfl (by kernel_rfl) (by kernel_rfl) (by kernel_rfl) (fun _ _ _ h => h) (Or.inl ⟨by rfl, ?_⟩) (by assumption) ?_
                    rotate_left
                    · intro w hSw
                      try dsimp only at hSw
                      go_simp
                      try with_reducible rfl
                    simp only [Act.put, List.setIfInBounds_toArray, List.set_cons_zero, List.set_cons_succ]
                    refine wpAnyH_take (i := 8) (oi := ⟨some 48, _, _, _, _, _⟩) (v := ?_) rfl (by kernel_rfl) (by kernel_rfl) (by kernel_rfl) (fun _ _ _ h => h) (Or.inl ⟨by rfl, ?_⟩) (by assumption) ?_
                    rotate_left
                    · intro w hSw
                      try dsimp only at hSw
                      go_simp
                      try with_reducible rfl
                    simp only [Act.put, List.setIfInBounds_toArray, List.set_cons_zero, List.set_cons_succ]
                    refine wpAnyH_take (i := 9) (oi := ⟨some 9, _, _, _, _, _⟩) (v := ?_) rfl (by kernel_rfl) (by kernel_rfl) (by kernel_rfl) (fun _ _ _ h => h) (Or.inl ⟨by rfl, ?_⟩) (by assumption) ?_
                    rotate_left
                    · intro w hSw
                      try dsimp only at hSw
                      go_simp
                      try with_reducible rfl
                    simp only [Act.put, List.setIfInBounds_toArray, List.set_cons_zero, List.set_cons_succ]
                    refine wpAnyH_done (by kernel_rfl) ?_ _
                    go_wp2_with fail
                    go_roundw
                    case rel => exact ⟨i + 1, by omega, by go_num, by first | rw [HT.out] | (rw [HT.out]; rfl), HBd.out⟩
                    case measure => simp [intOf]; omega
                · have HE : Hid (eqU x.s X9 Y9 u = false) := hidP (by unfold eqU; rw [Bool.eq_false_iff]; intro h; rw [Bool.and_eq_true, Bool.and_eq_true, beq_iff_eq, beq_iff_eq, beq_iff_eq] at h; exact a2 (by rw [h.2.1]))
                  rw [HE.out] at HT
                  clear HE
                  go_wp2_with fail
                  refine wp_region_held_drew (S := (fun Z => Z.cell? ⟨p, o + i * 3, none⟩ = some (.bool u.s) ∧ Z.cell? ⟨p, o + i * 3 + 1, none⟩ = some (.int .i64 u.H.toInt) ∧ Z.cell? ⟨p, o + i * 3 + 2, none⟩ = some (.int .i64 u.L.toInt) ∧ Z.cell? ⟨Ba, 0, none⟩ = some (.bool x.s) ∧ Z.cell? ⟨Ba, 1, none⟩ = some (.int .i64 X9.toInt) ∧ Z.cell? ⟨Ba, 2, none⟩ = some (.int .i64 Y9.toInt))) (by kernel_rfl) ?_ (fun hHeld => ?_)
                  · exact ⟨x0, x1, x2, y0, y1, y2⟩
                  refine wpAnyH_take (i := 0) (oi := ⟨some 40, _, _, _, _, _⟩) (v := ?_) rfl (by kernel_rfl) (by kernel_rfl) (by kernel_rfl) (fun _ _ _ h => h) (Or.inl ⟨by rfl, ?_⟩) (by assumption) ?_
                  rotate_left
                  · intro w hSw
                    try dsimp only at hSw
                    go_simp
                    try with_reducible rfl
                  simp only [Act.put, List.setIfInBounds_toArray, List.set_cons_zero, List.set_cons_succ]
                  refine wpAnyH_take (i := 1) (oi := ⟨some 41, _, _, _, _, _⟩) (v := ?_) rfl (by kernel_rfl) (by kernel_rfl) (by kernel_rfl) (fun _ _ _ h => h) (Or.inl ⟨by rfl, ?_⟩) (by assumption) ?_
                  rotate_left
                  · intro w hSw
                    try dsimp only at hSw
                    go_simp
                    try with_reducible rfl
                  simp only [Act.put, List.setIfInBounds_toArray, List.set_cons_zero, List.set_cons_succ]
                  refine wpAnyH_take (i := 2) (oi := ⟨some 42, _, _, _, _, _⟩) (v := ?_) rfl (by kernel_rfl) (by kernel_rfl) (by kernel_rfl) (fun _ _ _ h => h) (Or.inl ⟨by rfl, ?_⟩) (by assumption) ?_
                  rotate_left
                  · intro w hSw
                    try dsimp only at hSw
                    go_simp
                    try with_reducible rfl
                  simp only [Act.put, List.setIfInBounds_toArray, List.set_cons_zero, List.set_cons_succ]
                  refine wpAnyH_take (i := 3) (oi := ⟨some 43, _, _, _, _, _⟩) (v := ?_) rfl (by kernel_rfl) (by kernel_rfl) (by kernel_rfl) (fun _ _ _ h => h) (Or.inl ⟨by rfl, ?_⟩) (by assumption) ?_
                  rotate_left
                  · intro w hSw
                    try dsimp only at hSw
                    go_simp
                    try with_reducible rfl
                  simp only [Act.put, List.setIfInBounds_toArray, List.set_cons_zero, List.set_cons_succ]
                  refine wpAnyH_take (i := 4) (oi := ⟨some 44, _, _, _, _, _⟩) (v := ?_) rfl (by kernel_rfl) (by kernel_rfl) (by kernel_rfl) (fun _ _ _ h => h) (Or.inl ⟨by rfl, ?_⟩) (by assumption) ?_
                  rotate_left
                  · intro w hSw
                    try dsimp only at hSw
                    go_simp
                    try with_reducible rfl
                  simp only [Act.put, List.setIfInBounds_toArray, List.set_cons_zero, List.set_cons_succ]
                  refine wpAnyH_take (i := 5) (oi := ⟨some 45, _, _, _, _, _⟩) (v := ?_) rfl (by kernel_rfl) (by kernel_rfl) (by kernel_rfl) (fun _ _ _ h => h) (Or.inl ⟨by rfl, ?_⟩) (by assumption) ?_
                  rotate_left
                  · intro w hSw
                    try dsimp only at hSw
                    go_simp
                    try with_reducible rfl
                  simp only [Act.put, List.setIfInBounds_toArray, List.set_cons_zero, List.set_cons_succ]
                  refine wpAnyH_take (i := 6) (oi := ⟨some 46, _, _, _, _, _⟩) (v := ?_) rfl (by kernel_rfl) (by kernel_rfl) (by kernel_rfl) (fun _ _ _ h => h) (Or.inl ⟨by rfl, ?_⟩) (by assumption) ?_
                  rotate_left
                  · intro w hSw
                    try dsimp only at hSw
                    go_simp
                    try with_reducible rfl
                  simp only [Act.put, List.setIfInBounds_toArray, List.set_cons_zero, List.set_cons_succ]
                  refine wpAnyH_take (i := 7) (oi := ⟨some 47, _, _, _, _, _⟩) (v := ?_) rfl (by kernel_rfl) (by kernel_rfl) (by kernel_rfl) (fun _ _ _ h => h) (Or.inl ⟨by rfl, ?_⟩) (by assumption) ?_
                  rotate_left
                  · intro w hSw
                    try dsimp only at hSw
                    go_simp
                    try with_reducible rfl
                  simp only [Act.put, List.setIfInBounds_toArray, List.set_cons_zero, List.set_cons_succ]
                  refine wpAnyH_take (i := 8) (oi := ⟨some 48, _, _, _, _, _⟩) (v := ?_) rfl (by kernel_rfl) (by kernel_rfl) (by kernel_rfl) (fun _ _ _ h => h) (Or.inl ⟨by rfl, ?_⟩) (by assumption) ?_
                  rotate_left
                  · intro w hSw
                    try dsimp only at hSw
                    go_simp
                    try with_reducible rfl
                  simp only [Act.put, List.setIfInBounds_toArray, List.set_cons_zero, List.set_cons_succ]
                  refine wpAnyH_take (i := 9) (oi := ⟨some 9, _, _, _, _, _⟩) (v := ?_) rfl (by kernel_rfl) (by kernel_rfl) (by kernel_rfl) (fun _ _ _ h => h) (Or.inl ⟨by rfl, ?_⟩) (by assumption) ?_
                  rotate_left
                  · intro w hSw
                    try dsimp only at hSw
                    go_simp
                    try with_reducible rfl
                  simp only [Act.put, List.setIfInBounds_toArray, List.set_cons_zero, List.set_cons_succ]
                  refine wpAnyH_done (by kernel_rfl) ?_ _
                  go_wp2_with fail
                  go_roundw
                  case rel => exact ⟨i + 1, by omega, by go_num, by first | rw [HT.out] | (rw [HT.out]; rfl), HBd.out⟩
                  case measure => simp [intOf]; omega
              · have HE : Hid (eqU x.s X9 Y9 u = false) := hidP (by unfold eqU; rw [Bool.eq_false_iff]; intro h; rw [Bool.and_eq_true, Bool.and_eq_true, beq_iff_eq, beq_iff_eq, beq_iff_eq] at h; exact a1 h.1)
                rw [HE.out] at HT
                clear HE
                go_wp2_with fail
                refine wp_region_held_drew (S := (fun Z => Z.cell? ⟨p, o + i * 3, none⟩ = some (.bool u.s) ∧ Z.cell? ⟨p, o + i * 3 + 1, none⟩ = some (.int .i64 u.H.toInt) ∧ Z.cell? ⟨p, o + i * 3 + 2, none⟩ = some (.int .i64 u.L.toInt) ∧ Z.cell? ⟨Ba, 0, none⟩ = some (.bool x.s) ∧ Z.cell? ⟨Ba, 1, none⟩ = some (.int .i64 X9.toInt) ∧ Z.cell? ⟨Ba, 2, none⟩ = some (.int .i64 Y9.toInt))) (by kernel_rfl) ?_ (fun hHeld => ?_)
                · exact ⟨x0, x1, x2, y0, y1, y2⟩
                refine wpAnyH_take (i := 0) (oi := ⟨some 40, _, _, _, _, _⟩) (v := ?_) rfl (by kernel_rfl) (by kernel_rfl) (by kernel_rfl) (fun _ _ _ h => h) (Or.inl ⟨by rfl, ?_⟩) (by assumption) ?_
                rotate_left
                · intro w hSw
                  try dsimp only at hSw
                  go_simp
                  try with_reducible rfl
                simp only [Act.put, List.setIfInBounds_toArray, List.set_cons_zero, List.set_cons_succ]
                refine wpAnyH_take (i := 1) (oi := ⟨some 41, _, _, _, _, _⟩) (v := ?_) rfl (by kernel_rfl) (by kernel_rfl) (by kernel_rfl) (fun _ _ _ h => h) (Or.inl ⟨by rfl, ?_⟩) (by assumption) ?_
                rotate_left
                · intro w hSw
                  try dsimp only at hSw
                  go_simp
                  try with_reducible rfl
                simp only [Act.put, List.setIfInBounds_toArray, List.set_cons_zero, List.set_cons_succ]
                refine wpAnyH_take (i := 2) (oi := ⟨some 42, _, _, _, _, _⟩) (v := ?_) rfl (by kernel_rfl) (by kernel_rfl) (by kernel_rfl) (fun _ _ _ h => h) (Or.inl ⟨by rfl, ?_⟩) (by assumption) ?_
                rotate_left
                · intro w hSw
                  try dsimp only at hSw
                  go_simp
                  try with_reducible rfl
                simp only [Act.put, List.setIfInBounds_toArray, List.set_cons_zero, List.set_cons_succ]
                refine wpAnyH_take (i := 3) (oi := ⟨some 43, _, _, _, _, _⟩) (v := ?_) rfl (by kernel_rfl) (by kernel_rfl) (by kernel_rfl) (fun _ _ _ h => h) (Or.inl ⟨by rfl, ?_⟩) (by assumption) ?_
                rotate_left
                · intro w hSw
                  try dsimp only at hSw
                  go_simp
                  try with_reducible rfl
                simp only [Act.put, List.setIfInBounds_toArray, List.set_cons_zero, List.set_cons_succ]
                refine wpAnyH_take (i := 4) (oi := ⟨some 44, _, _, _, _, _⟩) (v := ?_) rfl (by kernel_rfl) (by kernel_rfl) (by kernel_rfl) (fun _ _ _ h => h) (Or.inl ⟨by rfl, ?_⟩) (by assumption) ?_
                rotate_left
                · intro w hSw
                  try dsimp only at hSw
                  go_simp
                  try with_reducible rfl
                simp only [Act.put, List.setIfInBounds_toArray, List.set_cons_zero, List.set_cons_succ]
                refine wpAnyH_take (i := 5) (oi := ⟨some 45, _, _, _, _, _⟩) (v := ?_) rfl (by kernel_rfl) (by kernel_rfl) (by kernel_rfl) (fun _ _ _ h => h) (Or.inl ⟨by rfl, ?_⟩) (by assumption) ?_
                rotate_left
                · intro w hSw
                  try dsimp only at hSw
                  go_simp
                  try with_reducible rfl
                simp only [Act.put, List.setIfInBounds_toArray, List.set_cons_zero, List.set_cons_succ]
                refine wpAnyH_take (i := 6) (oi := ⟨some 46, _, _, _, _, _⟩) (v := ?_) rfl (by kernel_rfl) (by kernel_rfl) (by kernel_rfl) (fun _ _ _ h => h) (Or.inl ⟨by rfl, ?_⟩) (by assumption) ?_
                rotate_left
                · intro w hSw
                  try dsimp only at hSw
                  go_simp
                  try with_reducible rfl
                simp only [Act.put, List.setIfInBounds_toArray, List.set_cons_zero, List.set_cons_succ]
                refine wpAnyH_take (i := 7) (oi := ⟨some 47, _, _, _, _, _⟩) (v := ?_) rfl (by kernel_rfl) (by kernel_rfl) (by kernel_rfl) (fun _ _ _ h => h) (Or.inl ⟨by rfl, ?_⟩) (by assumption) ?_
                rotate_left
                · intro w hSw
                  try dsimp only at hSw
                  go_simp
                  try with_reducible rfl
                simp only [Act.put, List.setIfInBounds_toArray, List.set_cons_zero, List.set_cons_succ]
                refine wpAnyH_take (i := 8) (oi := ⟨some 48, _, _, _, _, _⟩) (v := ?_) rfl (by kernel_rfl) (by kernel_rfl) (by kernel_rfl) (fun _ _ _ h => h) (Or.inl ⟨by rfl, ?_⟩) (by assumption) ?_
                rotate_left
                · intro w hSw
                  try dsimp only at hSw
                  go_simp
                  try with_reducible rfl
                simp only [Act.put, List.setIfInBounds_toArray, List.set_cons_zero, List.set_cons_succ]
                refine wpAnyH_take (i := 9) (oi := ⟨some 9, _, _, _, _, _⟩) (v := ?_) rfl (by kernel_rfl) (by kernel_rfl) (by kernel_rfl) (fun _ _ _ h => h) (Or.inl ⟨by rfl, ?_⟩) (by assumption) ?_
                rotate_left
                · intro w hSw
                  try dsimp only at hSw
                  go_simp
                  try with_reducible rfl
                simp only [Act.put, List.setIfInBounds_toArray, List.set_cons_zero, List.set_cons_succ]
                refine wpAnyH_done (by kernel_rfl) ?_ _
                go_wp2_with fail
                go_roundw
                case rel => exact ⟨i + 1, by omega, by go_num, by first | rw [HT.out] | (rw [HT.out]; rfl), HBd.out⟩
                case measure => simp [intOf]; omega
            · rw [hta, Bool.true_or] at HT
              go_wp2_with fail
              refine wp_region_held_drew (S := (fun Z => Z.cell? ⟨p, o + i * 3, none⟩ = some (.bool u.s) ∧ Z.cell? ⟨p, o + i * 3 + 1, none⟩ = some (.int .i64 u.H.toInt) ∧ Z.cell? ⟨p, o + i * 3 + 2, none⟩ = some (.int .i64 u.L.toInt) ∧ Z.cell? ⟨Ba, 0, none⟩ = some (.bool x.s) ∧ Z.cell? ⟨Ba, 1, none⟩ = some (.int .i64 X9.toInt) ∧ Z.cell? ⟨Ba, 2, none⟩ = some (.int .i64 Y9.toInt))) (by kernel_rfl) ?_ (fun hHeld => ?_)
              · exact ⟨x0, x1, x2, y0, y1, y2⟩
              refine wpAnyH_take (i := 0) (oi := ⟨some 40, _, _, _, _, _⟩) (v := ?_) rfl (by kernel_rfl) (by kernel_rfl) (by kernel_rfl) (fun _ _ _ h => h) (Or.inl ⟨by rfl, ?_⟩) (by assumption) ?_
              rotate_left
              · intro w hSw
                try dsimp only at hSw
                go_simp
                try with_reducible rfl
              simp only [Act.put, List.setIfInBounds_toArray, List.set_cons_zero, List.set_cons_succ]
              refine wpAnyH_take (i := 1) (oi := ⟨some 41, _, _, _, _, _⟩) (v := ?_) rfl (by kernel_rfl) (by kernel_rfl) (by kernel_rfl) (fun _ _ _ h => h) (Or.inl ⟨by rfl, ?_⟩) (by assumption) ?_
              rotate_left
              · intro w hSw
                try dsimp only at hSw
                go_simp
                try with_reducible rfl
              simp only [Act.put, List.setIfInBounds_toArray, List.set_cons_zero, List.set_cons_succ]
              refine wpAnyH_take (i := 2) (oi := ⟨some 42, _, _, _, _, _⟩) (v := undef) rfl (by kernel_rfl) (by kernel_rfl) (by kernel_rfl) (fun _ _ _ h => h) (Or.inr ⟨by rfl, rfl⟩) (by assumption) ?_
              simp only [Act.put, List.setIfInBounds_toArray, List.set_cons_zero, List.set_cons_succ]
              refine wpAnyH_take (i := 3) (oi := ⟨some 43, _, _, _, _, _⟩) (v := undef) rfl (by kernel_rfl) (by kernel_rfl) (by kernel_rfl) (fun _ _ _ h => h) (Or.inr ⟨by rfl, rfl⟩) (by assumption) ?_
              simp only [Act.put, List.setIfInBounds_toArray, List.set_cons_zero, List.set_cons_succ]
              refine wpAnyH_take (i := 4) (oi := ⟨some 44, _, _, _, _, _⟩) (v := undef) rfl (by kernel_rfl) (by kernel_rfl) (by kernel_rfl) (fun _ _ _ h => h) (Or.inr ⟨by rfl, rfl⟩) (by assumption) ?_
              simp only [Act.put, List.setIfInBounds_toArray, List.set_cons_zero, List.set_cons_succ]
              refine wpAnyH_take (i := 5) (oi := ⟨some 45, _, _, _, _, _⟩) (v := undef) rfl (by kernel_rfl) (by kernel_rfl) (by kernel_rfl) (fun _ _ _ h => h) (Or.inr ⟨by rfl, rfl⟩) (by assumption) ?_
              simp only [Act.put, List.setIfInBounds_toArray, List.set_cons_zero, List.set_cons_succ]
              refine wpAnyH_take (i := 6) (oi := ⟨some 46, _, _, _, _, _⟩) (v := undef) rfl (by kernel_rfl) (by kernel_rfl) (by kernel_rfl) (fun _ _ _ h => h) (Or.inr ⟨by rfl, rfl⟩) (by assumption) ?_
              simp only [Act.put, List.setIfInBounds_toArray, List.set_cons_zero, List.set_cons_succ]
              refine wpAnyH_take (i := 7) (oi := ⟨some 47, _, _, _, _, _⟩) (v := undef) rfl (by kernel_rfl) (by kernel_rfl) (by kernel_rfl) (fun _ _ _ h => h) (Or.inr ⟨by rfl, rfl⟩) (by assumption) ?_
              simp only [Act.put, List.setIfInBounds_toArray, List.set_cons_zero, List.set_cons_succ]
              refine wpAnyH_take (i := 8) (oi := ⟨some 48, _, _, _, _, _⟩) (v := ?_) rfl (by kernel_rfl) (by kernel_rfl) (by kernel_rfl) (fun _ _ _ h => h) (Or.inl ⟨by rfl, ?_⟩) (by assumption) ?_
              rotate_left
              · intro w hSw
                try dsimp only at hSw
                go_simp
                try with_reducible rfl
              simp only [Act.put, List.setIfInBounds_toArray, List.set_cons_zero, List.set_cons_succ]
              refine wpAnyH_take (i := 9) (oi := ⟨some 9, _, _, _, _, _⟩) (v := ?_) rfl (by kernel_rfl) (by kernel_rfl) (by kernel_rfl) (fun _ _ _ h => h) (Or.inl ⟨by rfl, ?_⟩) (by assumption) ?_
              rotate_left
              · intro w hSw
                try dsimp only at hSw
                go_simp
                try with_reducible rfl
              simp only [Act.put, List.setIfInBounds_toArray, List.set_cons_zero, List.set_cons_succ]
              refine wpAnyH_done (by kernel_rfl) ?_ _
              go_wp2_with fail
              go_roundw
              case rel => exact ⟨i + 1, by omega, by go_num, by first | rw [HT.out] | (rw [HT.out]; rfl), HBd.out⟩
              case measure => simp [intOf]; omega
          · have hin : i = n := by omega
            subst hin
            have eT : us.take i = us := by rw [HN.out, List.take_length]
            rw [eT]
            clear eT
            cases hta : us.any (eqU x.s X9 Y9)
            · have hfr : ∀ u ∈ us, u.s = x.s → u.adr ≠ x.adr + i9 := fun u hu hs he => by
                have h1 := (eqU_iff x.s X9 Y9 u).2 ⟨hs, he.trans HA9.out.symm⟩
                have h2 := List.any_eq_true.2 ⟨u, hu, h1⟩
                rw [hta] at h2; cases h2
              have HF : Hid (FAns x us (.tuple #[.agg #[.bool x.s, .int .i64 X9.toInt, .int .i64 Y9.toInt], .bool true])) := hidP (Or.inl ⟨X9, Y9, i9, hpl, HA9.out, hfr, fun j hj => (HAll.out j hj).2, rfl⟩)
              clear hfr
              have HBq := hidP (HBa.out.trans (HBr2.out.mono HBa.out.size))
              have q1 := (HBq.out.block _ (lt_heap H12.out)).trans H12.out
              obtain ⟨⟨z0, z1, z2⟩, f0, f1, f2⟩ := of3 q1
              have lzq := lt_heap q1
              have HZ := hidP (of3 (set3 (a' := .bool x.s) (b' := .int .i64 X9.toInt) (c' := .int .i64 Y9.toInt) q1)).1
              have HBe := hidP (HB2.out.trans (HBq.out.mono HB2.out.size))
              clear q1
              go_wp2_with fail
              obtain ⟨g0, g1, g2⟩ := HZ.out
              refine bodyPost_ret (v := .tuple #[.agg #[.bool x.s, .int .i64 X9.toInt, .int .i64 Y9.toInt], .bool true]) (by simp [results, Try.results25, go_sem, g0, g1, g2]) rfl ⟨_, rfl, HF.out, ?_⟩
              exact ((HBe.out.setCell (p := ⟨w.heap.size + 1, 0, none⟩) (Nat.le_succ _) _).setCell (p := ⟨w.heap.size + 1, 1, none⟩) (Nat.le_succ _) _).setCell (p := ⟨w.heap.size + 1, 2, none⟩) (Nat.le_succ _) _
            · have HF : Hid (∀ j, j < i9 + 1 → j < 2 ^ x.n ∧ ∃ u ∈ us, u.s = x.s ∧ u.adr = x.adr + j) := hidP fun j hj => by
                by_cases hj2 : j < i9
                · exact HAll.out j hj2
                · have : j = i9 := by omega
                  subst this
                  obtain ⟨u, hu, he⟩ := List.any_eq_true.1 hta
                  have h1 := (eqU_iff x.s X9 Y9 u).1 he
                  exact ⟨hpl, u, hu, h1.1, h1.2.trans HA9.out⟩
              have HBq := hidP (HBa.out.trans (HBr2.out.mono HBa.out.size))
              go_wp2_with fail
              go_roundw
              case rel => exact ⟨i9 + 1, by omega, by go_num, HF.out, HBq.out⟩
              case measure => simp [intOf]; omega
      · have HC := hidP (nth_no HX.out i9 (by omega) (by omega))
        have HF : Hid (FAns x us (.tuple #[.agg #[.bool false, .int .i64 0, .int .i64 0], .bool false])) := hidP (Or.inr ⟨fun m hm => (HAll.out m (by omega)).2, rfl⟩)
        go_wp2_with fail
        refine (HC.out _).mono ?_
        rintro e w3 ⟨rfl, hb3⟩
        have HB3 := hidP (HBr.out.trans (hb3.mono HBr.out.size))
        have q1 := (HB3.out.block _ (lt_heap H12.out)).trans H12.out
        obtain ⟨⟨z0, z1, z2⟩, f0, f1, f2⟩ := of3 q1
        have lzq := lt_heap q1
        have hzs : (((w3.setCell ⟨w.heap.size + 1, 0, none⟩ (.bool false)).setCell ⟨w.heap.size + 1, 1, none⟩ (.int .i64 0)).setCell ⟨w.heap.size + 1, 2, none⟩ (.int .i64 0)).heap.size = w3.heap.size := by simp [World.setCell]
        have q2 := (Below.heap_alloc (((w3.setCell ⟨w.heap.size + 1, 0, none⟩ (.bool false)).setCell ⟨w.heap.size + 1, 1, none⟩ (.int .i64 0)).setCell ⟨w.heap.size + 1, 2, none⟩ (.int .i64 0)) (.cells #[.bool false, .int .i64 0, .int .i64 0] 35) (w.heap.size + 1) (by rw [hzs]; exact lzq)).trans (set3 (a' := .bool false) (b' := .int .i64 0) (c' := .int .i64 0) q1)
        have HZ := hidP (of3 q2).1
        have HBe := hidP (((((HB2.out.trans (HB3.out.mono HB2.out.size)).setCell (p := ⟨w.heap.size + 1, 0, none⟩) (Nat.le_succ _) (.bool false)).setCell (p := ⟨w.heap.size + 1, 1, none⟩) (Nat.le_succ _) (.int .i64 0)).setCell (p := ⟨w.heap.size + 1, 2, none⟩) (Nat.le_succ _) (.int .i64 0)).alloc (by rw [hzs]; exact Nat.le_trans HB2.out.size HB3.out.size) (.cells #[.bool false, .int .i64 0, .int .i64 0] 35))
        clear hzs
        clear hb3 q1 q2
        go_wp2_with fail
        obtain ⟨g0, g1, g2⟩ := HZ.out
        refine bodyPost_ret (v := .tuple #[.agg #[.bool false, .int .i64 0, .int .i64 0], .bool false]) (by simp [results, Try.results25, go_sem, g0, g1, g2]) rfl ⟨_, rfl, HF.out, ?_⟩
        exact HBe.out
    · exfalso
      have := pig x.adr (n + 1) (us.map Ad.adr) fun j hj => by
        obtain ⟨_, u, hu, _, he⟩ := HAll.out j (by omega)
        rw [← he]; exact List.mem_map_of_mem hu
      rw [List.length_map, ← HN.out] at this
      omega

end Go.Proofs.Ytamocbkamjnonaa
