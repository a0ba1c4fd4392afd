/-
  slices.DeleteFunc of the one session of an Id.
-/
import Derived.Test.YtjenbmiiikeenaaV7Fnd
namespace Go.Proofs.Ytjenbmiiikeenaa
open Go.RowKit

theorem gflat_take {α : Type} (K : Kd α) : ∀ (ps : List α) (i : Nat), gflat K (ps.take i) = (gflat K ps).take (i * K.k)
  | [], i => by simp [gflat]
  | p :: t, 0 => by simp [gflat]
  | p :: t, i + 1 => by
      show K.cs p ++ gflat K (t.take i) = (K.cs p ++ gflat K t).take ((i + 1) * K.k)
      have e1 : (K.cs p).take ((i + 1) * K.k) = K.cs p := List.take_of_length_le (by rw [K.len, Nat.add_mul]; omega)
      have e2 : (i + 1) * K.k - (K.cs p).length = i * K.k := by rw [K.len, Nat.add_mul]; omega
      rw [gflat_take K t i, List.take_append, e1, e2]
theorem OwnG.cut {α : Type} {K : Kd α} {t : TypeId} {w : World} {B g n cap : Nat} {ps : List α} (h : OwnG K t w B (.slice (some ⟨g, 0, none⟩) n cap) ps) (i : Nat) (hi : i ≤ n) : OwnG K t w B (.slice (some ⟨g, 0, none⟩) i cap) (ps.take i) := by
  have hn := h.caps.1
  have hlt : (ps.take i).length = i := by rw [List.length_take]; omega
  rcases h.2 with ⟨hv, _⟩ | ⟨g', c', cur, hv, hb, hg, h1, h2, h3, h4⟩
  · simp at hv
  · simp at hv
    obtain ⟨e1, _, e2⟩ := hv
    subst e1 e2
    refine ⟨gflat_len K _, Or.inr ⟨g, cap, cur, by rw [hlt], hb, hg, by omega, h2, h3, ?_⟩⟩
    rw [hlt, gflat_take, ← h4, List.take_take]
    congr 1
    exact (Nat.min_eq_left (Nat.mul_le_mul_right _ (by omega))).symm
theorem OwnG.rowFrom {α : Type} {K : Kd α} {t : TypeId} {w : World} {B g n cap : Nat} {ps : List α} (h : OwnG K t w B (.slice (some ⟨g, 0, none⟩) n cap) ps) (j : Nat) : RowG K w (some ⟨g, j * K.k, none⟩) (ps.drop j) := fun i hi => by
  rw [List.length_drop] at hi
  obtain ⟨p, o, q, ha, hp, hq, c⟩ := h.row (j + i) (by omega)
  simp only [Option.some.injEq, Addr.mk.injEq, and_true] at ha
  obtain ⟨rfl, rfl⟩ := ha
  refine ⟨_, _, q, rfl, hp, by rw [List.getElem?_drop]; exact hq, fun x v hv => ?_⟩
  have := c x v hv
  rw [Nat.zero_add, Nat.add_mul] at this
  exact this

theorem setCells_puts (b : Nat) : ∀ (vs : List Value) (w : World) (o : Nat), w.setCells b o vs = puts w b o vs
  | [], _, _ => rfl
  | v :: vs, w, o => setCells_puts b vs (w.setCell ⟨b, o, none⟩ v) (o + 1)
theorem sets_past : ∀ (vs l : List Value) (o : Nat), l.length ≤ o → sets l o vs = l
  | [], _, _, _ => rfl
  | v :: vs, l, o, h => by
      show sets (l.set o v) (o + 1) vs = l
      rw [List.set_eq_of_length_le h]
      exact sets_past vs l (o + 1) (by omega)
/-- One is cleared behind a row's end. -/
theorem run_clear1 {P : Program} (w : World) (t e ty : TypeId) (z : Value) (ht : P.underlying t = some (.slice e)) (hv : ∀ w, (zeroValue e).run P w = .ok z w) (h1 : ∀ v ∈ z.cells.toList, v.oneCell' = true) (b o c : Nat)
    (hc : ∀ j, j < z.cells.toList.length → (w.cell? ⟨b, o + j, none⟩).isSome = true) (hf : ∀ j, j < z.cells.toList.length → w.frozen? ⟨b, o + j, none⟩ = false) :
    (Builtin.clear_ #[t] ty #[.slice (some ⟨b, o, none⟩) 1 c]).run P w = .ok (.tuple #[]) (puts w b o z.cells.toList) := by
  have hzc : (Builtin.zeroCells z.cells 1).toList = z.cells.toList := by
    simp [Builtin.zeroCells]
    apply List.ext_getElem
    · simp
    · intro i h1 h2
      simp at h1 h2
      simp [Nat.mod_eq_of_lt h2, getElem!_pos, h2]
  have hst := run_storeCells_cells (P := P) b o z.cells.toList 0 w (by simpa using hc) (by simpa using hf) h1
  simp only [Nat.add_zero] at hst
  rw [setCells_puts] at hst
  simp [Builtin.clear_, run_underlying ht, hv, hzc, hst]

theorem OwnG.cellIn {α : Type} {K : Kd α} {t : TypeId} {w : World} {B g n cap : Nat} {ps : List α} (h : OwnG K t w B (.slice (some ⟨g, 0, none⟩) n cap) ps) (j : Nat) (hj : j < cap * K.k) : (w.cell? ⟨g, j, none⟩).isSome = true := by
  rcases h.2 with ⟨hv, _⟩ | ⟨g', c', cur, hv, hb, hg, h1, h2, h3, h4⟩
  · simp at hv
  · simp at hv
    obtain ⟨e1, _, e2⟩ := hv
    subst e1 e2
    simp [World.cell?, hg, h3, hj]
theorem grown_of' {w w' : World} (h : Below w.heap.size w w') (r : Option Nat) : w.grownBy w' r := ⟨h.os, h.tape, h.output, h.size, fun k hk _ => h.block k hk⟩

theorem Try.zeroSs (w : World) : (zeroValue 39).run Try.prog w = .ok (.agg #[.int .i64 0, .int .i64 0, .string ⟨#[]⟩, .int .i64 0]) w := by
  obtain ⟨i0, hi, hz0, hz1, hz2⟩ := info_parts Try.tySs.2.1
  simp [zeroValue, typeInfo, hi, hz0]
/-- The row while those behind place I move up: those below J have moved. -/
def mvS (ls : List Ss) (I J : Nat) : List Ss := (ls.eraseIdx I).take J ++ ls.drop J
theorem mv_start (ls : List Ss) (I : Nat) (h : I ≤ ls.length) : mvS ls I I = ls := by
  unfold mvS
  rw [List.eraseIdx_eq_take_drop_succ, List.take_append, List.take_take, Nat.min_self]
  rw [List.length_take, Nat.min_eq_left h, Nat.sub_self, List.take_zero, List.append_nil, List.take_append_drop]
theorem mv_len (ls : List Ss) (I J : Nat) (hI : I < ls.length) (hJ : J < ls.length) : (mvS ls I J).length = ls.length := by
  unfold mvS
  rw [List.length_append, List.length_take, List.length_drop, List.length_eraseIdx_of_lt hI]
  omega
theorem mv_at (ls : List Ss) (I J : Nat) (hI : I < ls.length) (hJ : J + 1 < ls.length) : (mvS ls I J)[J + 1]? = ls[J + 1]? := by
  unfold mvS
  rw [List.getElem?_append_right (by rw [List.length_take, List.length_eraseIdx_of_lt hI]; omega), List.length_take, List.length_eraseIdx_of_lt hI, Nat.min_eq_left (by omega), List.getElem?_drop]
  congr 1
  omega
theorem mv_step (ls : List Ss) (I J : Nat) (q : Ss) (hI : I < ls.length) (hIJ : I ≤ J) (hq : ls[J + 1]? = some q) : (mvS ls I J).set J q = mvS ls I (J + 1) := by
  have hJ := (List.getElem?_eq_some_iff.1 hq).1
  unfold mvS
  have hl : ((ls.eraseIdx I).take J).length = J := by rw [List.length_take, List.length_eraseIdx_of_lt hI]; omega
  rw [List.set_append_right _ _ (by omega), hl, Nat.sub_self, List.take_add_one]
  have e : (ls.eraseIdx I)[J]? = some q := by rw [List.getElem?_eraseIdx_of_ge (by omega)]; exact hq
  rw [e, List.append_assoc]
  congr 1
  rw [List.drop_eq_getElem_cons (by omega : J < ls.length), List.set_cons_zero]
  rfl
theorem mv_end (ls : List Ss) (I J : Nat) (hI : I < ls.length) (hJ : J + 1 = ls.length) : (mvS ls I J).take J = ls.eraseIdx I := by
  unfold mvS
  have hl : ((ls.eraseIdx I).take J).length = J := by rw [List.length_take, List.length_eraseIdx_of_lt hI]; omega
  rw [List.take_append, hl, Nat.sub_self, List.take_zero, List.append_nil, List.take_of_length_le (by omega), List.take_of_length_le (by rw [List.length_eraseIdx_of_lt hI]; omega)]

set_option maxHeartbeats 1000000 in
theorem isId_any (cb : Nat) (id : Int) (q : Ss) (w : World) (hc : w.cell? ⟨cb, 0, none⟩ = some (.int .i64 id)) :
    Calls Try.prog 36 #[.agg #[.int .i64 q.i, .int .i64 q.l, .string q.t, .int .i64 q.u], .pointer (some ⟨cb, 0, none⟩)] w fun e w' => e = .returned (.bool (q.i == id)) ∧ Below w.heap.size w w' := by
  have hlt := World.block_lt_of_cell? w _ hc
  have hne : ¬ (cb = w.heap.size) := by simp at hlt; omega
  have hc' : ∀ o, (w.alloc o).cell? ⟨cb, 0, none⟩ = some (.int .i64 id) := fun o => ((alloc_below w o).cell hlt).trans hc
  go_enter Try.func36, Try.ntmps36
  go_wp2_with fail
  go_ret
  exact ⟨rfl, alloc_below w _⟩
set_option maxRecDepth 10000 in
set_option maxHeartbeats 1000000 in
theorem indexFunc_any (cb : Nat) (id : Int) (a : Option Addr) (n cap : Nat) (ls : List Ss) (w : World) (hn : n = ls.length) (hB : RowG KSs w a ls) (hl : n ≤ 9000000000) (hc : w.cell? ⟨cb, 0, none⟩ = some (.int .i64 id)) (I : Nat) (hf : findS id ls = some I) :
    Calls Try.prog 43 #[.slice a n cap, .func (.func 36) #[] #[.pointer (some ⟨cb, 0, none⟩)]] w fun e w' => e = .returned (.int .i64 I) ∧ Below w.heap.size w w' := by
  have hlt := World.block_lt_of_cell? w _ hc
  have HB := hidP hB
  have HN := hidP hn
  have HC := hidP (And.intro hlt hc)
  obtain ⟨qI, hqI, heI, hIl, hlow⟩ := findS_at hf
  have HI := hidP (And.intro hqI (And.intro heI (And.intro hIl hlow)))
  clear hB hn hc hlt hf hqI heI hIl hlow
  go_enter Try.func43, Try.ntmps43
  go_wp2_with fail
  go_loopw [5, 8] (fun _ t8 wr => ∃ k : Nat, k ≤ I ∧ t8 = .int .i64 k ∧ Below w.heap.size w wr) (fun _ t8 _ => n - (intOf t8).toNat)
  case atStart => exact ⟨0, Nat.zero_le _, rfl, Below.refl _ _⟩
  case round =>
    obtain ⟨k, hk, rfl, hbel⟩ := hrel
    have hlt : k < n := by have := HI.out.2.2.1; have := HN.out; omega
    obtain ⟨p, o, q, rfl, hp, hq, c0, c1, c2, c3⟩ := rowSs HB.out k (by rw [← HN.out]; exact hlt)
    have d0 := (hbel.cell hp).trans c0
    have d1 := (hbel.cell hp).trans c1
    have d2 := (hbel.cell hp).trans c2
    have d3 := (hbel.cell hp).trans c3
    have HBel := hidP hbel
    have HFq := hidP (isId_any cb id q wr ((hbel.cell HC.out.1).trans HC.out.2))
    have HQ := hidP hq
    clear hbel c0 c1 c2 c3 hq
    by_cases hkI : k = I
    · have he : (q.i == id) = true := by
        have h1 := HI.out.1; rw [← hkI, HQ.out] at h1; cases h1
        simpa using HI.out.2.1
      rw [he] at HFq
      have HkI := hidP hkI
      clear hkI he
      go_wp2_with (first | (go_at_call 36; refine (HFq.out).mono ?_; rintro e w2 ⟨rfl, hb2⟩))
      have HB2 := hidP (HBel.out.trans (hb2.mono HBel.out.size))
      clear hb2 HBel d0 d1 d2 d3
      go_wp2_with fail
      go_ret
      exact ⟨by rw [HkI.out]; rfl, HB2.out⟩
    · have he : (q.i == id) = false := by
        have := HI.out.2.2.2 k q (by omega) HQ.out
        simpa using this
      rw [he] at HFq
      go_wp2_with (first | (go_at_call 36; refine (HFq.out).mono ?_; rintro e w2 ⟨rfl, hb2⟩))
      have HB2 := hidP (HBel.out.trans (hb2.mono HBel.out.size))
      clear hb2 HBel d0 d1 d2 d3
      go_wp2_with fail
      go_roundw
      case rel => exact ⟨k + 1, by omega, by go_num, HB2.out⟩
      case measure => simp [intOf]; omega

set_option maxRecDepth 10000 in
set_option maxHeartbeats 2000000 in
theorem deleteFunc_any (cb : Nat) (id : Int) (g n cap B : Nat) (ls : List Ss) (w : World) (hn : n = ls.length) (hl : n ≤ 1048576) (h : OwnG KSs 39 w B (.slice (some ⟨g, 0, none⟩) n cap) ls) (hc : w.cell? ⟨cb, 0, none⟩ = some (.int .i64 id)) (hcg : cb ≠ g) (I : Nat) (hf : findS id ls = some I) (hone : ∀ (j : Nat) (r : Ss), I < j → ls[j]? = some r → r.i ≠ id) :
    Calls Try.prog 35 #[.slice (some ⟨g, 0, none⟩) n cap, .func (.func 36) #[] #[.pointer (some ⟨cb, 0, none⟩)]] w fun e w' => e = .returned (.slice (some ⟨g, 0, none⟩) (n - 1) cap) ∧ OwnG KSs 39 w' B (.slice (some ⟨g, 0, none⟩) (n - 1) cap) (ls.eraseIdx I) ∧ w.grownBy w' (some g) := by
  have hlt := World.block_lt_of_cell? w _ hc
  have hcap := h.caps
  have hnc : n ≤ cap := by omega
  have hc9 : cap ≤ 9223372036854775807 := hcap.2.2.1
  have HIx := hidP (indexFunc_any cb id (some ⟨g, 0, none⟩) n cap ls w hn h.row (by omega) hc I hf)
  have hIl : I < n := by rw [hn]; exact (findS_at hf).choose_spec.2.2.1
  have HO := hidP h
  have HN := hidP hn
  have HC := hidP hc
  have HOne := hidP hone
  have hmI : ((I : Int) == -1) = false := by rw [beq_eq_false_iff_ne]; omega
  clear h hn hc hf hone hcap
  go_enter Try.func35, Try.ntmps35
  go_wp2_with fail
  refine HIx.out.mono ?_
  rintro e w2 ⟨rfl, hb2⟩
  have HO2 := hidP (OwnG.later HO.out hb2)
  have HG2 := hidP (grown_of' hb2 (some g))
  have HC2 := hidP ((hb2.cell hlt).trans HC.out)
  have hlt2 : cb < w2.heap.size := Nat.lt_of_lt_of_le hlt hb2.size
  clear hb2 HO HC hlt
  go_wp2_with fail
  go_loopw [5, 6, 7] (fun t5 t6 _ wr => ∃ J K : Nat, K = J + 1 ∧ K ≤ n ∧ I ≤ J ∧ t5 = .int .i64 J ∧ t6 = .int .i64 K ∧ OwnG KSs 39 wr B (.slice (some ⟨g, 0, none⟩) n cap) (mvS ls I J) ∧ w2.grownBy wr (some g)) (fun _ t6 _ _ => n - (intOf t6).toNat)
  case atStart => exact ⟨I, I + 1, rfl, by omega, Nat.le_refl _, rfl, by go_num, by rw [mv_start ls I (by have := HN.out; omega)]; exact HO2.out, World.grownBy.refl _ _⟩
  case round =>
    obtain ⟨J, K, hKJ, hKn, hIJ, rfl, rfl, hown, hgr⟩ := hrel
    have HKJ := hidP hKJ
    have hJn : J < n := by omega
    have hlen : n = (mvS ls I J).length := by rw [mv_len ls I J (by rw [← HN.out]; exact hIl) (by rw [← HN.out]; exact hJn)]; exact HN.out
    by_cases hk : K < n
    · obtain ⟨q, hgl, hq, c0, c1, c2, c3⟩ := rowSs0 hown K (by rw [← hlen]; exact hk)
      have hq2 : ls[J + 1]? = some q := by
        rw [hKJ, mv_at ls I J (by rw [← HN.out]; exact hIl) (by rw [← HN.out, ← hKJ]; exact hk)] at hq; exact hq
      have hne : (q.i == id) = false := by
        have := HOne.out (J + 1) q (by omega) hq2
        simpa using this
      have cc : wr.cell? ⟨cb, 0, none⟩ = some (.int .i64 id) := cell_grown hgr HC2.out (fun k hk e => hcg (by rw [← e]; cases hk; rfl))
      have cL : cb < wr.heap.size := Nat.lt_of_lt_of_le hlt2 hgr.size
      have HFq := hidP (isId_any cb id q (wr.alloc (.cells #[.int .i64 q.i, .int .i64 q.l, .string q.t, .int .i64 q.u] 39)) (((alloc_below wr _).cell cL).trans cc))
      rw [hne] at HFq
      have HOw := hidP hown
      have HGr := hidP hgr
      have HQ := hidP hq2
      have HLn := hidP hlen
      have b0 := boxSs (q := q) wr 39
      have bB := alloc_below wr (.cells #[.int .i64 q.i, .int .i64 q.l, .string q.t, .int .i64 q.u] 39)
      have bL := alloc_lt wr (.cells #[.int .i64 q.i, .int .i64 q.l, .string q.t, .int .i64 q.u] 39)
      have HBB := hidP bB
      clear hq hq2 hown hgr hlen cc cL hKJ hne
      go_wp2_with fail
      obtain ⟨x0, x1, x2, x3⟩ := b0
      generalize wr.alloc (.cells #[.int .i64 q.i, .int .i64 q.l, .string q.t, .int .i64 q.u] 39) = W3 at *
      refine HFq.out.mono ?_
      rintro e w4 ⟨rfl, hb4⟩
      have y0 := (hb4.cell bL).trans x0
      have y1 := (hb4.cell bL).trans x1
      have y2 := (hb4.cell bL).trans x2
      have y3 := (hb4.cell bL).trans x3
      have hB4 := bB.trans (hb4.mono bB.size)
      have HO4 := hidP (OwnG.later HOw.out hB4)
      obtain ⟨q', hgl4, hq', r0, r1, r2, r3⟩ := rowSs0 HO4.out J (by rw [← HLn.out]; exact hJn)
      obtain ⟨f0, f1, f2, f3⟩ := frzSs HO4.out J
      have HPu := hidP (putSs HO4.out HLn.out J hJn q)
      rw [mv_step ls I J q (by rw [← HN.out]; exact hIl) hIJ HQ.out] at HPu
      have HG4 := hidP (HGr.out.trans (grown_of' hB4 (some g)))
      have j0 : (0 : Int) ≤ (J : Int) := by omega
      have j1 : (J : Int) < (n : Int) := by omega
      clear hb4 hB4 bB x0 x1 x2 x3 hq' c0 c1 c2 c3 bL
      go_wp2_with fail
      go_roundw
      case rel => exact ⟨J + 1, K + 1, by have := HKJ.out; omega, by omega, by omega, by go_num, by go_num, HPu.out, (((HG4.out.trans (grown_cellG _ g _ _)).trans (grown_cellG _ g _ _)).trans (grown_cellG _ g _ _)).trans (grown_cellG _ g _ _)⟩
      case measure => simp [intOf]; omega
    · have hKe : J + 1 = n := by omega
      have HOw := hidP hown
      have HGr := hidP hgr
      have hMc : cap ≠ J := by omega
      have hMc2 : ¬ cap = J := by omega
      have hn1 : n - J = 1 := by omega
      have e1 : (J : Int) ≤ (n : Int) := by omega
      have e2 : (n : Int) ≤ ((cap : Nat) : Int) := by omega
      have e3 : (0 : Int) ≤ (J : Int) := by omega
      have e4 : (J : Int) ≤ (cap : Int) := by omega
      have HCI := hidP (fun j (hj : j < 4) => OwnG.cellIn hown (J * 4 + j) (show J * 4 + j < cap * 4 by omega))
      have HFI := hidP (fun j => OwnG.frozen hown (J * 4 + j))
      have HKe := hidP hKe
      clear hown hgr hlen hKJ hKe
      have hclr : (Builtin.clear_ #[24] 0 #[.slice (some ⟨g, J * 4, none⟩) 1 (cap - J)]).run Try.prog wr = .ok (.tuple #[]) (puts wr g (J * 4) [.int .i64 0, .int .i64 0, .string ⟨#[]⟩, .int .i64 0]) := run_clear1 wr _ _ _ _ Try.tySs.1 Try.zeroSs (fun v hv => by simp [Value.cells] at hv; rcases hv with rfl | rfl | rfl <;> rfl) g (J * 4) _ (fun j hj => HCI.out j (by simpa [Value.cells] using hj)) (fun j _ => HFI.out j)
      go_wp2_with fail
      go_ret
      have hcut := OwnG.cut HOw.out J (by omega)
      rw [mv_end ls I J (by rw [← HN.out]; exact hIl) (by rw [← HN.out]; exact HKe.out)] at hcut
      have hlE : (ls.eraseIdx I).length = J := by rw [List.length_eraseIdx_of_lt (by rw [← HN.out]; exact hIl)]; have := HN.out; have := HKe.out; omega
      refine ⟨by rw [show n - 1 = J by have := HKe.out; omega]; rfl, ?_, ?_⟩
      · rw [show n - 1 = J by have := HKe.out; omega]
        have hp := puts_own [.int .i64 0, .int .i64 0, .string ⟨#[]⟩, .int .i64 0] wr _ (J * 4) (show wr.ownsRow B 39 4 (.slice (some ⟨g, 0, none⟩) J cap) J (gflat KSs (ls.eraseIdx I)) from by have := hcut; unfold OwnG at this; rw [hlE] at this; exact this)
        rw [sets_past _ _ _ (by rw [gflat_len, hlE]; exact Nat.le_refl _)] at hp
        unfold OwnG
        rw [hlE]
        exact hp
      · exact puts_grown _ _ _ (HG2.out.trans HGr.out)

end Go.Proofs.Ytjenbmiiikeenaa
