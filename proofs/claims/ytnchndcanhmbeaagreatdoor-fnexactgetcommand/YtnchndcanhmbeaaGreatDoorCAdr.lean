/-
  Both PutAddr: a mark and the words' bytes; an address that is not right has none. The row that is handed back is new, nothing old turns.
-/
import Derived.Test.YtnchndcanhmbeaaGreatDoorCWord
import Derived.Test.YtnchndcanhmbeaaGreatDoorCCat
import Derived.Test.YtnchndcanhmbeaaGreatDoorAOk
import Derived.Deep.RegionHeld3
namespace Go.Proofs.YtnchndcanhmbeaaGreatDoor
open Go.RowKit

def adrB (s : Bool) (h l : Int) : List Int := if okB s h l = true then (if s = true then 6 :: (big h 8 ++ big l 8) else 4 :: big l 4) else []
theorem adrB_no {s : Bool} {h l : Int} (e : okB s h l = false) : adrB s h l = [] := by unfold adrB; rw [e]; rfl
theorem adrB_6 {h l : Int} : adrB true h l = ([6] ++ big h 8) ++ big l 8 := by unfold adrB; rw [okB_t]; rfl
theorem adrB_4 {h l : Int} (e : okB false h l = true) : adrB false h l = [4] ++ big l 4 := by unfold adrB; rw [e]; rfl
theorem adrB_len (s : Bool) (h l : Int) : (adrB s h l).length ≤ 17 := by
  unfold adrB; split
  · split <;> simp [big]
  · simp
theorem own_lit (w : World) (B : Nat) (z : Int) (h : B ≤ w.heap.size) : Own (w.alloc (.cells #[.int .u8 z] 5)) B (.slice (some ⟨w.heap.size, 0, none⟩) 1 1) [z] :=
  World.ownsRow_lit w #[.int .u8 z] 1 h (by unfold maxLen; omega) (by simp)
theorem own_nil (w : World) (B : Nat) (h : B ≤ w.heap.size) : Own (w.alloc (.cells #[] 5)) B (.slice (some ⟨w.heap.size, 0, none⟩) 0 0) [] :=
  World.ownsRow_lit w #[] 0 h (by unfold maxLen; omega) (by simp)

theorem own_litD (w : World) (B : Nat) (z : Int) (h : B ≤ w.heap.size) : Own (w.alloc (.cells #[.int .u8 z] 5)).drew B (.slice (some ⟨w.heap.size, 0, none⟩) 1 1) [z] := own_lit w B z h
theorem own_allocD {w : World} {B : Nat} {v : Value} {zs : List Int} (h : Own w B v zs) (o : Obj) : Own (w.alloc o).drew B v zs := h.alloc o
theorem le_allocD (w : World) (o : Obj) {B : Nat} (h : B ≤ w.heap.size) : B ≤ (w.alloc o).drew.heap.size := by simp; omega
theorem lt_allocD (w : World) (o : Obj) {B : Nat} (h : B < w.heap.size) : B < (w.alloc o).drew.heap.size := by simp; omega
theorem gt_of {B g a b : Nat} (t : g = a ∨ g = b) (h1 : B < a) (h2 : B < b) : B < g := by rcases t with rfl | rfl <;> assumption
theorem belowA {w w1 w2 : World} {o : Obj} (h : Below w.heap.size w w1) (hz : w.heap.size ≤ w1.heap.size) (b : Below (w1.alloc o).drew.heap.size (w1.alloc o).drew w2) : Below w.heap.size w w2 :=
  (h.alloc hz o).drew.trans (b.mono (le_allocD w1 o hz))
theorem belowD {w w1 w2 : World} {o : Obj} (h : Below w.heap.size w w1) (hz : w.heap.size ≤ w1.heap.size) (b : Below w1.drew.heap.size w1.drew w2) : Below w.heap.size w (w2.alloc o) :=
  (h.drew.trans (b.mono hz)).alloc (Nat.le_trans hz b.size) o
theorem le9 (h : Int) : 1 + (big h 8).length ≤ 1000000000 := by simp [big]
theorem le17 (h l : Int) : (1 + (big h 8).length) + (big l 8).length ≤ 1000000000 := by simp [big]
/-- A box's two words, behind a call, and behind what turns another row alone. -/
theorem keepB {B : Nat} {h l : Int} {W X : World} (hS : W.cell? ⟨B, 1, none⟩ = some (.int .i64 h) ∧ W.cell? ⟨B, 2, none⟩ = some (.int .i64 l) ∧ B < W.heap.size) (b : Below W.heap.size W X) :
    X.cell? ⟨B, 1, none⟩ = some (.int .i64 h) ∧ X.cell? ⟨B, 2, none⟩ = some (.int .i64 l) ∧ B < X.heap.size :=
  ⟨(b.cell (p := ⟨B, 1, none⟩) hS.2.2).trans hS.1, (b.cell (p := ⟨B, 2, none⟩) hS.2.2).trans hS.2.1, Nat.lt_of_lt_of_le hS.2.2 b.size⟩
theorem keepA {B : Nat} {h l : Int} {W : World} (hS : W.cell? ⟨B, 1, none⟩ = some (.int .i64 h) ∧ W.cell? ⟨B, 2, none⟩ = some (.int .i64 l) ∧ B < W.heap.size) (o : Obj) :
    (W.alloc o).cell? ⟨B, 1, none⟩ = some (.int .i64 h) ∧ (W.alloc o).cell? ⟨B, 2, none⟩ = some (.int .i64 l) ∧ B < (W.alloc o).heap.size := keepB hS ((Below.refl _ W).alloc (Nat.le_refl _) o)
theorem keepG {B g : Nat} {h l : Int} {W X : World} (hS : W.cell? ⟨B, 1, none⟩ = some (.int .i64 h) ∧ W.cell? ⟨B, 2, none⟩ = some (.int .i64 l) ∧ B < W.heap.size) (hne : B ≠ g) (b : W.grownBy X (some g)) :
    X.cell? ⟨B, 1, none⟩ = some (.int .i64 h) ∧ X.cell? ⟨B, 2, none⟩ = some (.int .i64 l) ∧ B < X.heap.size :=
  ⟨(b.cell_far ⟨B, 1, none⟩ hS.2.2 (by simpa using hne)).trans hS.1, (b.cell_far ⟨B, 2, none⟩ hS.2.2 (by simpa using hne)).trans hS.2.1, Nat.lt_of_lt_of_le hS.2.2 b.size⟩

set_option maxRecDepth 10000 in
set_option maxHeartbeats 4000000 in
theorem sPutAddr_any (s : Bool) (h l : Int) (w : World) :
    Calls Tryz.prog 20 #[.agg #[.bool s, .int .i64 h, .int .i64 l]] w fun e w' => ∃ g c, e = .returned (.slice (some ⟨g, 0, none⟩) (adrB s h l).length c) ∧ Own w' w.heap.size (.slice (some ⟨g, 0, none⟩) (adrB s h l).length c) (adrB s h l) ∧ Below w.heap.size w w' := by
  cases hok : okB s h l
  · have HA : Hid (adrB s h l = []) := adrB_no hok
    have HK := hid' hok
    clear hok
    go_enter Tryz.func20, Tryz.ntmps20
    go_wp2_with fail
    refine (sAddrOk_any s h l _).mono ?_
    rw [HK.out]
    rintro e w1 ⟨rfl, hb⟩
    have HB := hid' ((((Below.refl _ w).alloc (Nat.le_refl _) _).trans (hb.mono (by simp))))
    have hz := HB.out.size
    clear hb
    go_wp2_with fail
    go_ret
    rw [HA.out]
    exact ⟨w1.heap.size, 0, rfl, own_nil w1 _ hz, HB.out.alloc hz _⟩
  · have HK := hid' hok
    cases s
    · have HA := hid' (adrB_4 hok)
      clear hok
      go_enter Tryz.func20, Tryz.ntmps20
      go_wp2_with fail
      refine (sAddrOk_any false h l _).mono ?_
      rw [HK.out]
      rintro e w1 ⟨rfl, hb⟩
      have HB := hid' ((((Below.refl _ w).alloc (Nat.le_refl _) _).trans (hb.mono (by simp))))
      obtain ⟨hc, hf⟩ := olds (n := w.heap.size + 1) (hb.mono (by simp))
      have hz := HB.out.size
      have hz1 : w.heap.size < w1.heap.size := by have := hb.size; simp at this; omega
      clear hb
      go_wp2_with fail
      refine (l3Great_any l 4 (by omega) (by omega) _).mono ?_
      rintro e w2 ⟨g, c, rfl, ho, hb⟩
      have HB2 := hid' (((HB.out.alloc hz _).trans (hb.mono (by simp; omega))))
      have HO1 := hid' ((own_lit w1 w.heap.size 4 hz).later hb)
      have HO2 := hid' ho
      have hz2 := HB2.out.size
      clear ho hb
      go_wp2_with (at_builtin; refine wpList_app _ rfl (.tmp 10) (.tmp 13) 29 rfl w.heap.size w1.heap.size 1 1 [4] (big l 4) _ _ rfl rfl rfl HO1.out rfl (src_byt (zs := big l 4) c HO2.out.bytA (by simp)) (by simp [big]) hz2 ?_; intro h' c' w3 hown hgr hat)
      have HB3 := hid' (below_app HB2.out HO1.out hz2 hgr)
      have HO3 := hid' hown
      clear hown hgr hat
      go_wp2_with fail
      go_ret
      refine ⟨h', c', ?_, ?_, HB3.out⟩
      · rw [HA.out, List.length_append]; rfl
      · rw [HA.out, List.length_append]; exact HO3.out
    · have HA := hid' (@adrB_6 h l)
      clear hok
      go_enter Tryz.func20, Tryz.ntmps20
      go_wp2_with fail
      refine (sAddrOk_any true h l _).mono ?_
      rw [HK.out]
      rintro e w1 ⟨rfl, hb⟩
      have HB := hid' ((((Below.refl _ w).alloc (Nat.le_refl _) _).trans (hb.mono (by simp))))
      obtain ⟨hc, hf⟩ := olds (n := w.heap.size + 1) (hb.mono (by simp))
      have hz := HB.out.size
      have hz1 : w.heap.size < w1.heap.size := by have := hb.size; simp at this; omega
      have c0 : w1.cell? ⟨w.heap.size, 0, none⟩ = some (.bool true) := by rw [hc _ _ (Nat.lt_succ_self _)]; simp [go_sem]
      have c1 : w1.cell? ⟨w.heap.size, 1, none⟩ = some (.int .i64 h) := by rw [hc _ _ (Nat.lt_succ_self _)]; simp [go_sem]
      have c2 : w1.cell? ⟨w.heap.size, 2, none⟩ = some (.int .i64 l) := by rw [hc _ _ (Nat.lt_succ_self _)]; simp [go_sem]
      clear hb hf hc
      go_wp2_with fail
      go_region_held3 (fun w' => w'.cell? ⟨w.heap.size, 1, none⟩ = some (.int .i64 h) ∧ w'.cell? ⟨w.heap.size, 2, none⟩ = some (.int .i64 l) ∧ w.heap.size < w'.heap.size) (first | (exact keepB (by assumption) b1) | (exact keepG (by assumption) (Nat.ne_of_lt hg1) gb) | (exact keepG (by assumption) (Nat.ne_of_lt hg0) ga) | (refine ⟨?_, ?_, ?_⟩ <;> first | (go_keep; done) | (simp; omega)))
        (first | (go_at_call 46; refine (l3Great_any _ 8 (by omega) (by omega) _).mono ?_; rintro e w2 ⟨g, c, rfl, o1, b1⟩) | (refine step_app _ rfl (.tmp 19) (.tmp 22) 29 rfl w.heap.size g1 (1 + (big h 8).length) c1' ([6] ++ big h 8) (big l 8) _ _ rfl rfl rfl (oa.later b1) rfl (src_byt (zs := big l 8) _ o1.bytA (by simp)) (le17 h l) (Nat.le_trans hz3 b1.size) ?_; intro g2 c2' w5 ob gb tb; have hbD := below_app (hbA.trans (b1.mono hz3)) (oa.later b1) (Nat.le_trans hz3 b1.size) gb) | (refine step_app _ rfl (.tmp 15) (.tmp 18) 29 rfl w.heap.size w1.heap.size 1 1 [6] (big h 8) _ _ rfl rfl rfl ((own_litD w1 _ 6 hz).later b1) rfl (src_byt (zs := big h 8) _ o1.bytA (by simp)) (le9 h) (Nat.le_trans (le_allocD w1 _ hz) b1.size) ?_; intro g1 c1' w3 oa ga ta; have hz3 := Nat.le_trans (Nat.le_trans (le_allocD w1 _ hz) b1.size) ga.size; have hbA := below_app (belowA HB.out hz b1) ((own_litD w1 _ 6 hz).later b1) (Nat.le_trans (le_allocD w1 _ hz) b1.size) ga; have hg0 := hz1; have hg1 := gt_of ta hz1 (Nat.lt_of_lt_of_le (lt_allocD w1 _ hz1) b1.size)) | (refine step_app _ rfl (.tmp 15) (.tmp 18) 29 rfl w.heap.size w2.heap.size 1 1 [6] (big h 8) _ _ rfl rfl rfl (own_litD w2 _ 6 (Nat.le_trans hz b1.size)) rfl (src_byt (zs := big h 8) _ (own_allocD o1 _).bytA (by simp)) (le9 h) (le_allocD w2 _ (Nat.le_trans hz b1.size)) ?_; intro g1 c1' w3 oa ga ta; have hz3 := Nat.le_trans (le_allocD w2 _ (Nat.le_trans hz b1.size)) ga.size; have hbA := below_app (belowD HB.out hz b1) (own_lit w2 _ 6 (Nat.le_trans hz b1.size)) (le_allocD w2 _ (Nat.le_trans hz b1.size)) ga; have hg0 := Nat.lt_of_lt_of_le hz1 b1.size; have hg1 := gt_of ta hg0 (lt_allocD w2 _ hg0)))
      all_goals
        have HO5 := hid' ob
        have HB5 := hid' hbD
        go_wp2_with fail
        go_ret
        refine ⟨g2, c2', ?_, ?_, HB5.out⟩
        · rw [HA.out]; simp only [List.length_append, List.length_cons, List.length_nil, Nat.zero_add]; rfl
        · rw [HA.out]; simp only [List.length_append, List.length_cons, List.length_nil, Nat.zero_add]; exact HO5.out

theorem rws3 {W : World} {h l : Int} {b0 b1 b2 c0 c1 c2 : Nat} {a0 a1 a2 : Addr} {B0 B1 B2 : Nat} (o0 : Own W B0 (.slice (some a0) 1 c0) [6]) (o1 : Own W B1 (.slice (some a1) 8 c1) (big h 8)) (o2 : Own W B2 (.slice (some a2) 8 c2) (big l 8))
    (e0 : b0 = 1) (e1 : b1 = 8) (e2 : b2 = 8) : Rws (W.alloc (.cells #[.slice (some a0) b0 c0, .slice (some a1) b1 c1, .slice (some a2) b2 c2] 29)) W.heap.size [[6], big h 8, big l 8] := by
  subst e0 e1 e2
  intro j hj
  have hj3 : j = 0 ∨ j = 1 ∨ j = 2 := by simp at hj; omega
  rcases hj3 with rfl | rfl | rfl
  · exact ⟨some a0, c0, [6], rfl, by simp [go_sem], (o0.alloc _).bytA, by simp⟩
  · exact ⟨some a1, c1, big h 8, rfl, by simp [go_sem, big], (o1.alloc _).bytA, by simp⟩
  · exact ⟨some a2, c2, big l 8, rfl, by simp [go_sem, big], (o2.alloc _).bytA, by simp⟩
theorem rws3q {W : World} {h l : Int} {q c0 c1 c2 : Nat} {a0 a1 a2 : Addr} {B0 B1 B2 : Nat} (o0 : Own W B0 (.slice (some a0) 1 c0) [6]) (o1 : Own W B1 (.slice (some a1) 8 c1) (big h 8)) (o2 : Own W B2 (.slice (some a2) 8 c2) (big l 8))
    (hq : q = W.heap.size) : Rws (W.alloc (.cells #[.slice (some a0) 1 c0, .slice (some a1) 8 c1, .slice (some a2) 8 c2] 29)) q [[6], big h 8, big l 8] := by
  subst hq; exact rws3 o0 o1 o2 rfl rfl rfl
theorem rws2 {W : World} {l : Int} {c0 c1 : Nat} {a0 a1 : Addr} {B0 B1 : Nat} (o0 : Own W B0 (.slice (some a0) 1 c0) [4]) (o1 : Own W B1 (.slice (some a1) 4 c1) (big l 4)) :
    Rws (W.alloc (.cells #[.slice (some a0) 1 c0, .slice (some a1) 4 c1] 29)) W.heap.size [[4], big l 4] := by
  intro j hj
  have hj3 : j = 0 ∨ j = 1 := by simp at hj; omega
  rcases hj3 with rfl | rfl
  · exact ⟨some a0, c0, [4], rfl, by simp [go_sem], (o0.alloc _).bytA, by simp⟩
  · exact ⟨some a1, c1, big l 4, rfl, by simp [go_sem, big], (o1.alloc _).bytA, by simp⟩
theorem fin_below {w cur wC : World} {o : Obj} (h : Below w.heap.size w cur) (b : Below (cur.alloc o).heap.size (cur.alloc o) wC) : Below w.heap.size w wC :=
  (h.alloc h.size o).trans (b.mono (by have := h.size; simp; omega))
theorem fin_own {w cur wC : World} {o : Obj} {v : Value} {zs : List Int} (h : Below w.heap.size w cur) (b : Own wC (cur.alloc o).heap.size v zs) : Own wC w.heap.size v zs :=
  b.mono (by have := h.size; simp; omega)
theorem fl3 (h l : Int) : [[6], big h 8, big l 8].flatten = adrB true h l := by rw [adrB_6]; simp
theorem fl2 {h l : Int} (e : okB false h l = true) : [[4], big l 4].flatten = adrB false h l := by rw [adrB_4 e]; simp
theorem adrB_len6 (h l : Int) : (adrB true h l).length = (big h 8).length + (big l 8).length + 1 := by rw [adrB_6]; simp only [List.length_append, List.length_cons, List.length_nil]; omega
theorem fl3_len (h l : Int) : ([[6], big h 8, big l 8].flatten).length = 17 := by simp [big]
theorem fl2_len (l : Int) : ([[4], big l 4].flatten).length = 5 := by simp [big]
theorem lt_alloc (w : World) (o : Obj) : w.heap.size < (w.alloc o).heap.size := by simp

theorem wordBytes_ex (n : Int) (c : Nat) (hc : c ≤ 8) (w : World) :
    Calls Tryz.prog 50 #[.int .i64 n, .int .i64 c] w fun e w' => ∃ g, e = .returned (.slice (some ⟨g, 0, none⟩) c c) ∧ Own w' w.heap.size (.slice (some ⟨g, 0, none⟩) c c) (big n c) ∧ Below w.heap.size w w' :=
  (wordBytes_any n c hc w).mono fun _ _ h => ⟨w.heap.size, h.1, h.2.1, h.2.2⟩

set_option maxRecDepth 10000 in
set_option maxHeartbeats 4000000 in
theorem iPutAddr_any (s : Bool) (h l : Int) (w : World) :
    Calls Tryz.prog 27 #[.agg #[.bool s, .int .i64 h, .int .i64 l]] w fun e w' => ∃ g c, e = .returned (.slice (some ⟨g, 0, none⟩) (adrB s h l).length c) ∧ Own w' w.heap.size (.slice (some ⟨g, 0, none⟩) (adrB s h l).length c) (adrB s h l) ∧ Below w.heap.size w w' := by
  cases hok : okB s h l
  · have HA : Hid (adrB s h l = []) := adrB_no hok
    have HK := hid' hok
    clear hok
    go_enter Tryz.func27, Tryz.ntmps27
    go_wp2_with fail
    refine (iAddrOk_any s h l _).mono ?_
    rw [HK.out]
    rintro e w1 ⟨rfl, hb⟩
    have HB := hid' ((((Below.refl _ w).alloc (Nat.le_refl _) _).trans (hb.mono (by simp))))
    have hz := HB.out.size
    clear hb
    go_wp2_with fail
    go_ret
    rw [HA.out]
    exact ⟨w1.heap.size, 0, rfl, own_nil w1 _ hz, HB.out.alloc hz _⟩
  · have HK := hid' hok
    cases s
    · have HA := hid' (fl2 hok)
      clear hok
      go_enter Tryz.func27, Tryz.ntmps27
      go_wp2_with fail
      refine (iAddrOk_any false h l _).mono ?_
      rw [HK.out]
      rintro e w1 ⟨rfl, hb⟩
      have HB := hid' ((((Below.refl _ w).alloc (Nat.le_refl _) _).trans (hb.mono (by simp))))
      obtain ⟨hc, hf⟩ := olds (n := w.heap.size + 1) (hb.mono (by simp))
      have hz := HB.out.size
      have hz1 : w.heap.size < w1.heap.size := by have := hb.size; simp at this; omega
      clear hb
      go_wp2_with fail
      refine (wordBytes_ex l 4 (by omega) _).mono ?_
      rintro e w2 ⟨gA, rfl, ho, hb⟩
      have HB2 := hid' (((HB.out.alloc hz _).trans (hb.mono (by simp; omega))))
      have HO1 := hid' ((own_lit w1 w.heap.size 4 hz).later hb)
      have HO2 := hid' ho
      have hz2 := HB2.out.size
      clear ho hb
      go_wp2_with fail
      refine (concat_any w2.heap.size 2 2 [[4], big l 4] _ rfl (by omega) (lt_alloc _ _) (rws2 HO1.out HO2.out) (by rw [fl2_len]; omega) (by rw [fl2_len]; omega)).mono ?_
      rintro e w3 ⟨g, c, rfl, ho, hb⟩
      have HO3 := hid' (ho.mono (B' := w.heap.size) (by simp; omega))
      have HB3 := hid' (fin_below HB2.out hb)
      rw [HA.out] at *
      clear ho hb
      go_wp2_with fail
      go_ret
      exact ⟨g, c, rfl, HO3.out, HB3.out⟩
    · have HA := hid' (fl3 h l)
      clear hok
      go_enter Tryz.func27, Tryz.ntmps27
      go_wp2_with fail
      refine (iAddrOk_any true h l _).mono ?_
      rw [HK.out]
      rintro e w1 ⟨rfl, hb⟩
      have HB := hid' ((((Below.refl _ w).alloc (Nat.le_refl _) _).trans (hb.mono (by simp))))
      obtain ⟨hc, hf⟩ := olds (n := w.heap.size + 1) (hb.mono (by simp))
      have hz := HB.out.size
      have hz1 : w.heap.size < w1.heap.size := by have := hb.size; simp at this; omega
      have c0 : w1.cell? ⟨w.heap.size, 0, none⟩ = some (.bool true) := by rw [hc _ _ (Nat.lt_succ_self _)]; simp [go_sem]
      have c1 : w1.cell? ⟨w.heap.size, 1, none⟩ = some (.int .i64 h) := by rw [hc _ _ (Nat.lt_succ_self _)]; simp [go_sem]
      have c2 : w1.cell? ⟨w.heap.size, 2, none⟩ = some (.int .i64 l) := by rw [hc _ _ (Nat.lt_succ_self _)]; simp [go_sem]
      clear hb hf hc
      go_wp2_with fail
      have hzD : w.heap.size ≤ w1.drew.heap.size := hz
      go_region_held3 (fun w' => w'.cell? ⟨w.heap.size, 1, none⟩ = some (.int .i64 h) ∧ w'.cell? ⟨w.heap.size, 2, none⟩ = some (.int .i64 l) ∧ w.heap.size < w'.heap.size) (first | (with_reducible exact keepA (by assumption) _) | (exact keepB (by assumption) bC) | (exact keepB (by assumption) bB) | (exact keepB (by assumption) bA) | (refine ⟨?_, ?_, ?_⟩ <;> first | (go_keep; done) | (simp; omega)))
        (first | (go_at_call_of 50 (Value.int .i64 h); refine (wordBytes_ex h 8 (by omega) _).mono ?_; rintro e wA ⟨gA, rfl, oA, bA⟩; have hBA : Below w.heap.size w wA := (by first | with_reducible exact belowA HB.out hz bA | with_reducible exact Below.trans (Below.drew HB.out) (bA.mono hzD)); have hzA := hBA.size) | (go_at_call_of 50 (Value.int .i64 l); refine (wordBytes_ex l 8 (by omega) _).mono ?_; rintro e wB ⟨gB, rfl, oB, bB⟩; have hBB : Below w.heap.size w wB := (by first | with_reducible exact hBA.trans (bB.mono hzA) | with_reducible exact fin_below hBA bB); have hzB := hBB.size) | (go_at_call 25; refine (concat_any _ 3 3 [[6], big h 8, big l 8] _ rfl (by omega) ?_ ?_ (by rw [fl3_len]; omega) (by rw [fl3_len]; omega)).mono ?_; (focus (first | with_reducible exact lt_alloc _ _ | (simp; done))); (focus (first | with_reducible exact rws3 (((own_litD w1 w.heap.size 6 hz).later bA).later bB) (oA.later bB) oB rfl rfl rfl | with_reducible exact rws3 ((own_lit wA w.heap.size 6 hzA).later bB) ((oA.alloc _).later bB) oB rfl rfl rfl | with_reducible exact rws3q (own_lit wB w.heap.size 6 hzB) ((oA.later bB).alloc _) (oB.alloc _) (by simp))); rintro e wC ⟨g, c, rfl, oC, bC⟩; (first | (have hbC : Below w.heap.size w wC := (by with_reducible exact fin_below hBB bC); have hoC : Own wC w.heap.size (.slice (some ⟨g, 0, none⟩) ([[6], big h 8, big l 8].flatten).length c) ([[6], big h 8, big l 8].flatten) := (by with_reducible exact fin_own hBB oC)) | (have hbC : Below w.heap.size w wC := (by with_reducible exact fin_below (hBB.alloc hzB _) bC); have hoC : Own wC w.heap.size (.slice (some ⟨g, 0, none⟩) ([[6], big h 8, big l 8].flatten).length c) ([[6], big h 8, big l 8].flatten) := (by with_reducible exact fin_own (hBB.alloc hzB _) oC)))))
      all_goals
        have HO5 := hid' hoC
        have HB5 := hid' hbC
        rw [HA.out] at HO5
        go_wp2_with fail
        go_ret
        exact ⟨g, c, by rw [adrB_len6]; rfl, HO5.out, HB5.out⟩

end Go.Proofs.YtnchndcanhmbeaaGreatDoor
