/-
  Both GroupOf of any Keep.
-/
import Derived.Test.YtamaanbnlnpjcaaV15G
import Derived.Test.YtamaanbnlnpjcaaV15S
import Derived.Test.YtamaanbnlnpjcaaV15B
import Derived.Test.YtamaanbnlnpjcaaV15Z
namespace Go.Proofs.Ytamaanbnlnpjcaa
open Go.ChangeShapes Go.WideShapes Go.ChangeAt Go.RowKit Go.Joins Go.Deep

/-- What GroupOf answers. -/
def grA (k : Kv) : List Int × List Int := if kvB k = true then grOf k else ([], [])
theorem GrE.nil (w w' : World) : GrE ([], []) w w' (.returned (.agg #[.slice none 0 0, .slice none 0 0])) := ⟨none, 0, none, 0, rfl, own_noneG _ _ _ _, own_noneG _ _ _ _, fun _ h => by cases h⟩
set_option maxRecDepth 10000 in
set_option maxHeartbeats 8000000 in
theorem l13GroupOf_ex (k : Kv) (w : World) (hr : KvR w k) (hf : ∀ e ∈ k.es, EnF e) (ho : KvOk k) (hg0 : k.ga = none → k.gc = 0) (hh0 : k.ha = none → k.hc = 0) (hg : k.gn ≤ 1048576) (hh : k.hn ≤ 1048576) :
    Calls Try.prog 57 #[k.v] w fun e w' => GrE (grOf k) w w' e ∧ Below w.heap.size w w' := by
  have h2 : k.ln ≤ 120 := by rw [hr.hl]; exact ho.lg
  have HGr := hidP (fun W (hb : Below w.heap.size w W) => l13Group_ex k (k.B + (k.ln : Int)) W (hr.later hb) hf (fun e he => ris_ok ho.rs he) hg0 hh0 hg hh h2 ho.b.1 ho.b.2 rfl)
  have hB := ho.b
  generalize grOf k = P at *
  clear hr hf ho hg0 hh0 hg hh
  obtain ⟨T, V, B, E, ga, gn, gc, ha, hn, hc, sa, sn, sc, la, ln, lc, ps, bs, es⟩ := k
  simp only at HGr h2 hB
  have wl : IntKind.i64.wrap (B + (ln : Int)) = B + (ln : Int) := by rw [IntKind.wrap_i64]; omega
  go_enter Try.func57, Try.ntmps57
  go_wp2_with fail
  refine (HGr.out _ ?_).mono ?_
  · repeat (first | with_reducible exact Below.refl _ _ | (with_reducible refine Below.drew ?_) | (with_reducible refine Below.alloc ?_ ?_ _; rotate_left; (focus (first | omega | (simp; omega) | (simp; done)))) | (with_reducible refine Below.setCell ?_ ?_ _; rotate_left; (focus (first | omega | (simp; omega) | (simp; done)))))
  rintro e w1 ⟨⟨y, a1, c1, b1, d1, rfl, o1, o2, sp⟩, hb1⟩
  have hz1 := hb1.size
  try simp at hz1
  have f10 : w.heap.size < w1.heap.size := by omega
  have f11 : w.heap.size + 1 < w1.heap.size := by omega
  obtain ⟨m1, hm1⟩ : ∃ m, P.1.length = m := ⟨_, rfl⟩
  obtain ⟨m2, hm2⟩ : ∃ m, P.2.length = m := ⟨_, rfl⟩
  rw [hm1] at o1
  rw [hm2] at o2
  rw [hm1, hm2] at sp ⊢
  have OX : Hid (OwnG KI 3 w1 (w.heap.size + 2) (.slice a1 m1 c1) P.1 ∧ OwnG KI 3 w1 (w.heap.size + 2) (.slice b1 m2 d1) P.2 ∧ (∀ q, (Value.slice a1 m1 c1).ownBlock = some q → (Value.slice b1 m2 d1).ownBlock ≠ some q) ∧ P.1.length = m1 ∧ P.2.length = m2) := hidP ⟨o1.mono (by simp), o2.mono (by simp), sp, hm1, hm2⟩
  refine olds_k (w.heap.size + 2) hb1 ?_ ?_
  · first | omega | (simp; omega) | (simp; done)
  intro hc1 hf1
  clear o1 o2 sp hm1 hm2
  go_wp2_with fail
  have X0 : ∀ o : Obj, (((w1.setCell ⟨w.heap.size + 1, 0, none⟩ (.slice a1 m1 c1)).setCell ⟨w.heap.size + 1, 1, none⟩ (.slice b1 m2 d1)).alloc o).cell? ⟨w.heap.size + 1, 0, none⟩ = some (.slice a1 m1 c1) := fun o => ((alloc_below _ o).cell (p := ⟨w.heap.size + 1, 0, none⟩) (by simp; omega)).trans (by simp [go_sem, hc1])
  have X1 : ∀ o : Obj, (((w1.setCell ⟨w.heap.size + 1, 0, none⟩ (.slice a1 m1 c1)).setCell ⟨w.heap.size + 1, 1, none⟩ (.slice b1 m2 d1)).alloc o).cell? ⟨w.heap.size + 1, 1, none⟩ = some (.slice b1 m2 d1) := fun o => ((alloc_below _ o).cell (p := ⟨w.heap.size + 1, 1, none⟩) (by simp; omega)).trans (by simp [go_sem, hc1])
  refine bodyPost_ret (v := .agg #[.slice a1 m1 c1, .slice b1 m2 d1]) (by simp [results, Try.results57, go_sem, X0, X1]) rfl ⟨?_, ?_⟩
  · have k3 : ∀ V0, Kpt (fun k => w.heap.size + 2 ≤ k) w1 V0 → GrE P w V0 (.returned (.agg #[.slice a1 m1 c1, .slice b1 m2 d1])) := fun V0 hV => by
      have i1 : ∀ k, w.heap.size + 2 ≤ k → w.heap.size + 2 ≤ k := fun _ h => h
      refine ⟨a1, c1, b1, d1, by rw [OX.out.2.2.2.1, OX.out.2.2.2.2], ?_, ?_, ?_⟩
      · rw [OX.out.2.2.2.1]; exact (own_kpt OX.out.1 hV i1).mono (by omega)
      · rw [OX.out.2.2.2.2]; exact (own_kpt OX.out.2.1 hV i1).mono (by omega)
      · rw [OX.out.2.2.2.1, OX.out.2.2.2.2]; exact OX.out.2.2.1
    refine k3 _ ?_
    repeat (first | with_reducible exact Kpt.refl _ _ | (with_reducible refine kpt_setN ?_ ?_ _; rotate_left; (focus (first | omega | (simp; omega) | (simp; done)))) | (with_reducible refine kpt_bel ?_ (alloc_below _ _)))
  · repeat (first | with_reducible exact Below.refl _ _ | (with_reducible refine Below.drew ?_) | (with_reducible refine Below.alloc ?_ ?_ _; rotate_left; (focus (first | omega | (simp; omega) | (simp; done)))) | (with_reducible refine Below.setCell ?_ ?_ _; rotate_left; (focus (first | omega | (simp; omega) | (simp; done)))) | (with_reducible refine Below.trans ?_ (hb1.mono ?_); rotate_left; (focus (first | omega | (simp; omega) | (simp; done)))))

set_option maxRecDepth 10000 in
set_option maxHeartbeats 8000000 in
theorem sGroupOf_any (k : Kv) (w : World) (hs : k.gn ≤ 1048576 ∧ k.hn ≤ 1048576 ∧ k.ln ≤ 1048576) (hr : KvR w k) (hf : ∀ e ∈ k.es, EnF e) (hg0 : k.ga = none → k.gc = 0) (hh0 : k.ha = none → k.hc = 0) :
    Calls Try.prog 22 #[k.v] w fun e w' => GrE (grA k) w w' e ∧ Below w.heap.size w w' := by
  have HK := hidP (fun W (hb : Below w.heap.size w W) => sKeep_any k W hs (hr.later hb) hf)
  unfold grA
  cases h : kvB k
  · rw [if_neg (by decide)]
    rw [h] at HK
    clear h hr hf hs hg0 hh0
    obtain ⟨T, V, B, E, ga, gn, gc, ha, hn, hc, sa, sn, sc, la, ln, lc, ps, bs, es⟩ := k
    try simp only at HK
    go_enter Try.func22, Try.ntmps22
    go_wp2_with fail
    refine (HK.out _ ?_).mono ?_
    · repeat (first | with_reducible exact Below.refl _ _ | (with_reducible refine Below.drew ?_) | (with_reducible refine Below.alloc ?_ ?_ _; rotate_left; (focus (first | omega | (simp; omega) | (simp; done)))) | (with_reducible refine Below.setCell ?_ ?_ _; rotate_left; (focus (first | omega | (simp; omega) | (simp; done)))))
    rintro e w1 ⟨rfl, hb1⟩
    have hz1 := hb1.size
    try simp at hz1
    have f10 : w.heap.size < w1.heap.size := by omega
    have f11 : w.heap.size + 1 < w1.heap.size := by omega
    refine olds_k (w.heap.size + 2) hb1 ?_ ?_
    · first | omega | (simp; omega) | (simp; done)
    intro hc1 hf1
    go_wp2_with fail
    refine bodyPost_ret (v := .agg #[.slice none 0 0, .slice none 0 0]) (by simp [results, Try.results22, go_sem, hc1]) rfl ⟨GrE.nil _ _, ?_⟩
    repeat (first | with_reducible exact Below.refl _ _ | (with_reducible refine Below.drew ?_) | (with_reducible refine Below.alloc ?_ ?_ _; rotate_left; (focus (first | omega | (simp; omega) | (simp; done)))) | (with_reducible refine Below.setCell ?_ ?_ _; rotate_left; (focus (first | omega | (simp; omega) | (simp; done)))) | (with_reducible refine Below.trans ?_ (hb1.mono ?_); rotate_left; (focus (first | omega | (simp; omega) | (simp; done)))))
  · rw [if_pos rfl]
    rw [h] at HK
    have ho := kvOk_of h hr.hl ⟨by rw [← hr.hg]; exact hs.1, by rw [← hr.hh]; exact hs.2.1⟩
    have HI := hidP (fun W (hb : Below w.heap.size w W) => l13GroupOf_ex k W (hr.later hb) hf ho hg0 hh0 hs.1 hs.2.1)
    generalize grOf k = P at *
    clear h hr hf hs hg0 hh0 ho
    obtain ⟨T, V, B, E, ga, gn, gc, ha, hn, hc, sa, sn, sc, la, ln, lc, ps, bs, es⟩ := k
    try simp only at HK HI
    go_enter Try.func22, Try.ntmps22
    go_wp2_with fail
    refine (HK.out _ ?_).mono ?_
    · repeat (first | with_reducible exact Below.refl _ _ | (with_reducible refine Below.drew ?_) | (with_reducible refine Below.alloc ?_ ?_ _; rotate_left; (focus (first | omega | (simp; omega) | (simp; done)))) | (with_reducible refine Below.setCell ?_ ?_ _; rotate_left; (focus (first | omega | (simp; omega) | (simp; done)))))
    rintro e w1 ⟨rfl, hb1⟩
    have hz1 := hb1.size
    try simp at hz1
    have f10 : w.heap.size < w1.heap.size := by omega
    have f11 : w.heap.size + 1 < w1.heap.size := by omega
    refine olds_k (w.heap.size + 2) hb1 ?_ ?_
    · first | omega | (simp; omega) | (simp; done)
    intro hc1 hf1
    go_wp2_with fail
    refine (HI.out _ ?_).mono ?_
    · repeat (first | with_reducible exact Below.refl _ _ | (with_reducible refine Below.drew ?_) | (with_reducible refine Below.alloc ?_ ?_ _; rotate_left; (focus (first | omega | (simp; omega) | (simp; done)))) | (with_reducible refine Below.setCell ?_ ?_ _; rotate_left; (focus (first | omega | (simp; omega) | (simp; done)))) | (with_reducible refine Below.trans ?_ (hb1.mono ?_); rotate_left; (focus (first | omega | (simp; omega) | (simp; done)))))
    rintro e w2 ⟨⟨a1, c1, b1, d1, rfl, o1, o2, sp⟩, hb2⟩
    have hz2 := hb2.size
    have f20 : w.heap.size < w2.heap.size := by omega
    have f21 : w.heap.size + 1 < w2.heap.size := by omega
    obtain ⟨m1, hm1⟩ : ∃ m, P.1.length = m := ⟨_, rfl⟩
    obtain ⟨m2, hm2⟩ : ∃ m, P.2.length = m := ⟨_, rfl⟩
    rw [hm1] at o1
    rw [hm2] at o2
    rw [hm1, hm2] at sp ⊢
    have OX : Hid (OwnG KI 3 w2 (w.heap.size + 2) (.slice a1 m1 c1) P.1 ∧ OwnG KI 3 w2 (w.heap.size + 2) (.slice b1 m2 d1) P.2 ∧ (∀ q, (Value.slice a1 m1 c1).ownBlock = some q → (Value.slice b1 m2 d1).ownBlock ≠ some q) ∧ P.1.length = m1 ∧ P.2.length = m2) := hidP ⟨o1.mono (by omega), o2.mono (by omega), sp, hm1, hm2⟩
    refine olds_k (w.heap.size + 2) hb2 ?_ ?_
    · first | omega | (simp; omega) | (simp; done)
    intro hc2 hf2
    clear o1 o2 sp hm1 hm2
    go_wp2_with fail
    refine bodyPost_ret (v := .agg #[.slice a1 m1 c1, .slice b1 m2 d1]) (by simp [results, Try.results22, go_sem, hc1, hc2]) rfl ⟨?_, ?_⟩
    · have k3 : ∀ V0, Kpt (fun k => w.heap.size + 2 ≤ k) w2 V0 → GrE P w V0 (.returned (.agg #[.slice a1 m1 c1, .slice b1 m2 d1])) := fun V0 hV => by
        have i1 : ∀ k, w.heap.size + 2 ≤ k → w.heap.size + 2 ≤ k := fun _ h => h
        refine ⟨a1, c1, b1, d1, by rw [OX.out.2.2.2.1, OX.out.2.2.2.2], ?_, ?_, ?_⟩
        · rw [OX.out.2.2.2.1]; exact (own_kpt OX.out.1 hV i1).mono (by omega)
        · rw [OX.out.2.2.2.2]; exact (own_kpt OX.out.2.1 hV i1).mono (by omega)
        · rw [OX.out.2.2.2.1, OX.out.2.2.2.2]; exact OX.out.2.2.1
      refine k3 _ ?_
      repeat (first | with_reducible exact Kpt.refl _ _ | (with_reducible refine kpt_setN ?_ ?_ _; rotate_left; (focus (first | omega | (simp; omega) | (simp; done)))) | (with_reducible refine kpt_bel ?_ (alloc_below _ _)))
    · repeat (first | with_reducible exact Below.refl _ _ | (with_reducible refine Below.drew ?_) | (with_reducible refine Below.alloc ?_ ?_ _; rotate_left; (focus (first | omega | (simp; omega) | (simp; done)))) | (with_reducible refine Below.setCell ?_ ?_ _; rotate_left; (focus (first | omega | (simp; omega) | (simp; done)))) | (with_reducible refine Below.trans ?_ (hb2.mono ?_); rotate_left; (focus (first | omega | (simp; omega) | (simp; done)))) | (with_reducible refine Below.trans ?_ (hb1.mono ?_); rotate_left; (focus (first | omega | (simp; omega) | (simp; done)))))

attribute [local go_sem] Oper.semAt_some
set_option maxRecDepth 10000 in
set_option maxHeartbeats 4000000 in
theorem groupOf_no (k : Kv) (w : World) (hs : k.gn ≤ 1048576 ∧ k.hn ≤ 1048576) (hr : KvR w k) (h : kvB k = false) :
    Calls Try.prog 15 #[k.v] w fun e w' => GrE ([], []) w w' e ∧ Below w.heap.size w w' := by
  have HKo := hidP (fun W hb => iKeep_any k W hs (hr.later hb))
  rw [h] at HKo
  clear h hr hs
  refine (callsIn_wide (n := 9)).1 (callsIn_of_wp_marks Try.func15 rfl trivial ?_ rfl)
  simp only [Try.ntmps15, List.size_toArray, List.length_cons, List.length_nil, Nat.reduceAdd, Nat.reduceSub, Array.replicate_succ, Array.replicate_zero, List.push_toArray, List.append_toArray, List.nil_append, List.cons_append]
  gi_wp2
  have b1 := alloc_below w (.cells #[.int .i64 k.T, .int .i64 k.V, .int .i64 k.B, .int .i64 k.E, .slice k.ga k.gn k.gc, .slice k.ha k.hn k.hc, .slice k.sa k.sn k.sc, .slice k.la k.ln k.lc] 29)
  have s1 : (w.alloc (.cells #[.int .i64 k.T, .int .i64 k.V, .int .i64 k.B, .int .i64 k.E, .slice k.ga k.gn k.gc, .slice k.ha k.hn k.hc, .slice k.sa k.sn k.sc, .slice k.la k.ln k.lc] 29)).heap.size = w.heap.size + 1 := by simp
  have o1 : (w.alloc (.cells #[.int .i64 k.T, .int .i64 k.V, .int .i64 k.B, .int .i64 k.E, .slice k.ga k.gn k.gc, .slice k.ha k.hn k.hc, .slice k.sa k.sn k.sc, .slice k.la k.ln k.lc] 29)).heap[w.heap.size]? = some (.cells #[.int .i64 k.T, .int .i64 k.V, .int .i64 k.B, .int .i64 k.E, .slice k.ga k.gn k.gc, .slice k.ha k.hn k.hc, .slice k.sa k.sn k.sc, .slice k.la k.ln k.lc] 29) := World.alloc_heap_new ..
  generalize w.alloc (.cells #[.int .i64 k.T, .int .i64 k.V, .int .i64 k.B, .int .i64 k.E, .slice k.ga k.gn k.gc, .slice k.ha k.hn k.hc, .slice k.sa k.sn k.sc, .slice k.la k.ln k.lc] 29) = W1 at *
  have b2 := alloc_below W1 (.cells #[.slice none 0 0, .slice none 0 0] 26)
  have s2 : (W1.alloc (.cells #[.slice none 0 0, .slice none 0 0] 26)).heap.size = w.heap.size + 2 := by simp; omega
  have o2 : (W1.alloc (.cells #[.slice none 0 0, .slice none 0 0] 26)).heap[w.heap.size + 1]? = some (.cells #[.slice none 0 0, .slice none 0 0] 26) := by rw [← s1]; exact World.alloc_heap_new ..
  generalize W1.alloc (.cells #[.slice none 0 0, .slice none 0 0] 26) = W2 at *
  have o1' := (b2.block w.heap.size (by omega)).trans o1
  have bW := b1.trans (b2.mono (by omega))
  clear b1 b2 s1 o1 W1
  refine ⟨trivial, (callsIn_wide.2 (HKo.out _ bW)).mono ?_⟩
  rintro e w3 ⟨rfl, hb3⟩
  have p1 := (hb3.block w.heap.size (by omega)).trans o1'
  have p2 := (hb3.block (w.heap.size + 1) (by omega)).trans o2
  have b3 := bW.trans (hb3.mono (by omega))
  have s3 : w.heap.size + 2 ≤ w3.heap.size := by have := hb3.size; omega
  obtain ⟨⟨v0, v1⟩, f0, f1⟩ := of2E p2
  have HP := hidP (And.intro p2 b3)
  have HN := hidP (GrE.nil w)
  clear o1' o2 bW hb3 s2 W2 p1 p2 b3
  gi_wp2
  have k2 := set2E (a' := .slice none 0 0) (b' := .slice none 0 0) HP.out.1
  have g0 := obj_cell (i := 0) k2 rfl
  have g1 := obj_cell (i := 1) k2 rfl
  exact ⟨.agg #[.slice none 0 0, .slice none 0 0], by simp [results, Try.results15, go_sem, g0, g1], HN.out _, bel_setE (bel_setE HP.out.2 _ _ (by show w.heap.size ≤ w.heap.size + 1; omega)) _ _ (by show w.heap.size ≤ w.heap.size + 1; omega)⟩

theorem iGroupOf_all (k : Kv) (w : World) (hs : k.gn ≤ 1048576 ∧ k.hn ≤ 1048576) (hr : KvR w k) (hsep : ∀ e ∈ k.es, ∀ p o, e.a = some ⟨p, o, none⟩ → ∀ o', k.la ≠ some ⟨p, o', none⟩) :
    Calls Try.prog 15 #[k.v] w fun e w' => GrE (grA k) w w' e ∧ Below w.heap.size w w' := by
  unfold grA
  cases h : kvB k
  · rw [if_neg (by decide)]
    exact groupOf_no k w hs hr h
  · rw [if_pos rfl]
    exact groupOf_ex k (kvOk_of h hr.hl ⟨by rw [← hr.hg]; exact hs.1, by rw [← hr.hh]; exact hs.2⟩) w hr hsep

end Go.Proofs.Ytamaanbnlnpjcaa
