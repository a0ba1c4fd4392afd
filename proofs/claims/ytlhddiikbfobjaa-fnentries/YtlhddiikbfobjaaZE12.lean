/-
  slices.Backward over a row of entries: it hands them out from the last to the first.
-/
import Derived.Test.YtlhddiikbfobjaaZE10
import Derived.Test.YtlhddiikbfobjaaZE11
namespace Go.Proofs.Ytlhddiikbfobjaa
open Go.ChangeShapes Go.WideShapes Go.ChangeAt Go.RowKit Go.Joins Go.Deep

/-- The first i entries, from the last of them to the first. -/
def bkF (es : List En) : Nat → List (Nat × En)
  | 0 => []
  | i + 1 => match es[i]? with
    | some e => (i, e) :: bkF es i
    | none => bkF es i
theorem bkF_next {es : List En} {i : Nat} {e : En} (h : es[i]? = some e) : bkF es (i + 1) = (i, e) :: bkF es i := by
  show (match es[i]? with | some e => (i, e) :: bkF es i | none => bkF es i) = _
  rw [h]
theorem bkF_mem {es : List En} {x : Nat × En} : ∀ {i : Nat}, x ∈ bkF es i → x.2 ∈ es
  | 0, h => by cases h
  | i + 1, h => by
      cases he : es[i]? with
      | none =>
        have : bkF es (i + 1) = bkF es i := by show (match es[i]? with | some e => (i, e) :: bkF es i | none => bkF es i) = _; rw [he]
        rw [this] at h
        exact bkF_mem h
      | some e =>
        rw [bkF_next he] at h
        rcases List.mem_cons.1 h with rfl | h
        · exact List.mem_of_getElem? he
        · exact bkF_mem h
def encE (x : Nat × En) : Array Value := #[.int .i64 (x.1 : Int), .agg #[.int .i64 x.2.T, .int .i64 x.2.K, .slice x.2.a x.2.n x.2.c]]
theorem RowG.kept {w w' : World} {a : Option Addr} {es : List En} {M : Nat → Prop} (h : RowG KEn w a es) (hk : Kpt (fun k => ¬ M k) w w') (hne : 0 < es.length → ∀ p o, a = some ⟨p, o, none⟩ → ¬ M p) : RowG KEn w' a es := fun j hj => by
  obtain ⟨p, o, q, ha, hp, hq, c⟩ := h j hj
  exact ⟨p, o, q, ha, Nat.lt_of_lt_of_le hp hk.size, hq, fun i v hv => (World.cell?_of_block (w := w) (hk.block p hp (hne (by omega) p o ha))).trans (c i v hv)⟩

set_option maxHeartbeats 1000000 in
theorem back_any (a : Option Addr) (n c : Nat) (w : World) :
    Calls Try.prog 30 #[.slice a n c] w fun e w' => e = .returned (.func (.func 67) #[] #[.pointer (some ⟨w.heap.size, 0, none⟩)]) ∧ w' = w.alloc (.cells #[.slice a n c] 27) := by
  go_enter Try.func30, Try.ntmps30
  go_wp2
  go_ret
  exact ⟨rfl, rfl⟩

set_option maxRecDepth 10000 in
set_option maxHeartbeats 2000000 in
theorem back_iter (Bl : Nat) (a : Option Addr) (n c : Nat) (es : List En) (w : World) (hn : n = es.length) (hl : n ≤ 120) (hm : w.cell? ⟨Bl, 0, none⟩ = some (.slice a n c)) (hR : RowG KEn w a es) :
    Iter Try.prog 67 #[.pointer (some ⟨Bl, 0, none⟩)] encE (bkF es n) (fun k => k = Bl ∨ (0 < es.length ∧ ∃ o, a = some ⟨k, o, none⟩)) w := by
  intro l J M W hk hRM hfit hA hRn hJ0
  have hBl : Bl < w.heap.size := World.block_lt_of_cell? w _ hm
  have hm' : W.cell? ⟨Bl, 0, none⟩ = some (.slice a n c) := (hk.cell (p := ⟨Bl, 0, none⟩) hBl (Or.inl rfl)).trans hm
  have hRW : RowG KEn W a es := fun j hj => by
    obtain ⟨p, o, q, ha, hp, hq, c⟩ := hR j hj
    exact ⟨p, o, q, ha, Nat.lt_of_lt_of_le hp hk.size, hq, fun i v hv => (hk.cell (p := ⟨p, o + j * KEn.k + i, none⟩) hp (Or.inr ⟨by omega, o, ha⟩)).trans (c i v hv)⟩
  have hBW : Bl < W.heap.size := Nat.lt_of_lt_of_le hBl hk.size
  have HW := hidP (And.intro hm' (And.intro hRW hBW))
  have HM := hidP hRM
  have HRn := hidP hRn
  have HN := hidP hn
  clear hm hR hk hRW hm' hRM hRn hn hBl hBW
  have m0 := HW.out.1
  refine (callsIn_wide (n := 9)).1 (callsIn_of_wp Try.func67 rfl trivial ?_ rfl)
  simp only [Try.ntmps67, List.size_toArray, List.length_cons, List.length_nil, Nat.reduceAdd, Nat.reduceSub, Array.replicate_succ, Array.replicate_zero, List.push_toArray, List.append_toArray, List.nil_append, List.cons_append]
  gi_wp2
  try go_frame
  gi_loopw [3] (fun t3 wr => ∃ (i : Nat) (z : Int) (pre : List (Nat × En)) (M' : Nat → Prop), t3 = .int .i64 z ∧ z = (i : Int) - 1 ∧ i ≤ n ∧ pre ++ bkF es i = bkF es n ∧ J true pre M' wr ∧ Grw M M' W wr)
    (fun t3 _ => (intOf t3 + 1).toNat)
  case atStart => exact ⟨n, (n : Int) - 1, [], M, by go_num, rfl, Nat.le_refl _, rfl, hJ0, Grw.refl hfit⟩
  case round =>
    obtain ⟨i, z, pre, M', rfl, hz, hin, hpre, hJs, hG⟩ := hrel
    have c0 : wr.cell? ⟨Bl, 0, none⟩ = some (.slice a n c) := (World.cell?_of_block (w := W) (hG.kept.block Bl HW.out.2.2 (HM.out Bl (Or.inl rfl)))).trans HW.out.1
    rcases i with _ | i
    · have hz' : z = -1 := by omega
      subst hz'
      clear hz
      gi_wp2
      go_end0
      exact ⟨⟨_, rfl⟩, true, pre, M', hJs, hG, fun _ => by simpa [bkF] using hpre, fun h => by cases h⟩
    · have hz' : z = (i : Int) := by omega
      subst hz'
      have hRr := RowG.kept HW.out.2.1 hG.kept (fun h0 p o ha => HM.out p (Or.inr ⟨h0, o, ha⟩))
      obtain ⟨p, o, e, rfl, hp, he, y0, y1, y2⟩ := rowEn hRr i (by have := HN.out; omega)
      rw [bkF_next he] at hpre
      have hpx : pre ++ [(i, e)] <+: bkF es n := ⟨bkF es i, by rw [List.append_assoc]; exact hpre⟩
      have HP := hidP (And.intro hpre hpx)
      have i0 : (0 : Int) ≤ (i : Int) := by omega
      have i1 : (i : Int) < (n : Int) := by omega
      obtain ⟨fn, tmps, assign, body, hy, hRd⟩ := HRn.out 8 pre (i, e) M' wr hJs hG.fit hpx
      dsimp only [encE] at hy
      have HG := hidP hG
      clear hz hpre hpx hJs hRr hp he hG
      gi_wp2
      refine hRd.mono ?_
      rintro x W4 ⟨bb, M4, rfl, hJ4, hG4⟩
      cases bb
      · gi_wp2
        refine bodyPost_ret (results_none rfl _ _ _) rfl ?_
        exact ⟨⟨_, rfl⟩, false, pre ++ [(i, e)], M4, hJ4, HG.out.trans hG4, fun h => (by cases h), fun _ => HP.out.2⟩
      · gi_wp2
        go_roundw
        case rel => exact ⟨i, (i : Int) - 1, pre ++ [(i, e)], M4, by go_num, rfl, by omega, by rw [List.append_assoc]; exact HP.out.1, hJ4, HG.out.trans hG4⟩
        case measure => simp [intOf]

end Go.Proofs.Ytlhddiikbfobjaa
