/-
  What came in, opened, where the numbers of those that led are numbers of 64 bits; both OneLeader.
-/
import Derived.Test.YtjiplphfpkhmpaaJP
import Derived.Test.YtjiplphfpkhmpaaJQ
import Derived.Test.YtjiplphfpkhmpaaEO
namespace Go.Proofs.Ytjiplphfpkhmpaa
open Go.ChangeShapes Go.WideShapes Go.ChangeAt Go.RowKit Go.Joins Go.Deep

def cInt2W : Cd (List Int) where
  k := 2
  rep := fun W B vs xs => cIntA2.rep W B vs xs ∧ ∀ v ∈ xs, (Lit.int .i64 v).wf = true
  tot := fun _ => 0
  len := fun h => cIntA2.len h.1
  one := fun h => cIntA2.one h.1
  frm := fun h f => ⟨cIntA2.frm h.1 f, h.2⟩
  low := fun h f => ⟨cIntA2.low h.1 f, h.2⟩
  nn := fun _ => Int.le_refl _
def cCluW := cTwo (cTwo (cTwo (cTwo (cTwo (cTwo (cTwo cNil cReplicaS) cGroup) cMsgS) (cRow cInt2W)) cEntryS) cStringS) cBool
theorem clu_wf {W : World} {B : Nat} {us : List Value} {x : CluA} (h : cCluW.rep W B us x) : cCluster.rep W B us x ∧ ∀ (j : Nat) (y : List Int), (cluLed x)[j]? = some y → (Lit.int .i64 (l0 y)).wf = true ∧ (Lit.int .i64 (l1 y)).wf = true := by
  obtain ⟨⟨⟨⟨⟨⟨⟨_, x0⟩, x1⟩, x2⟩, x3⟩, x4⟩, x5⟩, x6⟩ := x
  obtain ⟨_, u6, rfl, ⟨_, u5, rfl, ⟨_, u4, rfl, ⟨_, u3, rfl, ⟨_, u2, rfl, ⟨_, u1, rfl, ⟨_, u0, rfl, rfl, h0⟩, g1⟩, h2⟩, h3⟩, h4⟩, h5⟩, h6⟩ := h
  obtain ⟨o, c, rfl, hl, hr⟩ := h3
  have hr1 : ∀ j y, x3[j]? = some y → At cIntA2 W B o j y := fun j y hj => by
    obtain ⟨p, q, us, e, hb, hp, hs, hr⟩ := hr j y hj
    exact ⟨p, q, us, e, hb, hp, hs, hr.1⟩
  refine ⟨⟨_, u6, rfl, ⟨_, u5, rfl, ⟨_, u4, rfl, ⟨_, _, rfl, ⟨_, u2, rfl, ⟨_, u1, rfl, ⟨_, u0, rfl, rfl, h0⟩, g1⟩, h2⟩, ⟨o, c, rfl, hl, hr1⟩⟩, h4⟩, h5⟩, h6⟩, fun j y hj => ?_⟩
  obtain ⟨p, q, us, e, hb, hp, hs, hr⟩ := hr j y hj
  obtain ⟨⟨_, hy⟩, hw⟩ := hr
  match y, hy with
  | [a, b], _ => exact ⟨hw a (by simp), hw b (by simp)⟩
theorem op_arrW {P : Program} {t e : TypeId} (ht : P.underlying t = some (.array 2 e)) (he : P.underlying e = some (.int .i64)) (hk : P.cellsOf e = 1) (ht1 : P.cellsOf t = 2) : OpC P cInt2W t := fun H enc W fuel cs x h => by
  obtain ⟨xs, m, _, _, hl, hxl, hx⟩ := DataW.trod_array ht h
  have hall : ∀ l : List Value, (∀ u ∈ l, ∃ z, u = .int .i64 z ∧ (Lit.int .i64 z).wf = true) → ∃ zs : List Int, l = zs.map (fun x => .int .i64 x) ∧ ∀ v ∈ zs, (Lit.int .i64 v).wf = true := by
    intro l
    induction l with
    | nil => exact fun _ => ⟨[], rfl, fun v hv => by cases hv⟩
    | cons u t ih =>
      intro hu
      obtain ⟨z, rfl, hz⟩ := hu u (List.mem_cons_self ..)
      obtain ⟨zs, rfl, hzs⟩ := ih (fun v hv => hu v (List.mem_cons_of_mem _ hv))
      refine ⟨z :: zs, rfl, fun v hv => ?_⟩
      rcases List.mem_cons.1 hv with rfl | hv
      · exact hz
      · exact hzs v hv
  obtain ⟨zs, rfl, hw⟩ := hall cs (fun u hu => by
    obtain ⟨i, hi⟩ := List.mem_iff_getElem?.1 hu
    have hil := (List.getElem?_eq_some_iff.1 hi).1
    have h1 := hx i (by omega)
    rw [hk, Nat.mul_one, List.getElem?_eq_getElem (by omega)] at h1
    obtain ⟨z, hz, _, hn⟩ := DataW.trod_int he h1
    have h2 : (cs.drop i).take 1 = [u] := by
      rw [List.drop_eq_getElem_cons hil, (List.getElem?_eq_some_iff.1 hi).2]
      rfl
    rw [h2] at hz
    exact ⟨z, (List.cons.inj hz).1, hn⟩)
  exact ⟨zs, ⟨rfl, by rw [List.length_map] at hl; omega⟩, hw⟩
set_option maxRecDepth 100000 in
set_option maxHeartbeats 2000000 in
theorem opInt2WS : OpC Try.prog (cRow cInt2W) 27 := op_row Try.underlying27 (by kernel_rfl) (by rw [show cInt2W.k = 2 by kernel_rfl]; decide) (op_arrW Try.underlying49 Try.underlying3 (by kernel_rfl) (by kernel_rfl))
set_option maxRecDepth 100000 in
set_option maxHeartbeats 2000000 in
theorem opCluW : OpC Try.prog cCluW 31 := fun H enc W fuel cs x h => by
  obtain ⟨xs, n, _, _, hl, hxl, hx⟩ := DataW.trod_struct Try.underlying31 h
  have hl2 : cs.length = 8 := hl.trans (by kernel_rfl)
  have hm : xs.length = 7 := hxl
  have r0 : cNil.rep W 0 (cs.take 0) () := rfl
  have f0 := (hx 0 _ rfl).trans (List.getElem?_eq_getElem (by omega))
  obtain ⟨y0, r1⟩ := op_step (t := 22) (off := 0) (k := 1) (n := n) r0 opReplicaS (by kernel_rfl) f0
  have f1 := (hx 1 _ rfl).trans (List.getElem?_eq_getElem (by omega))
  obtain ⟨y1, r2⟩ := op_step (t := 25) (off := 1) (k := 2) (n := n) r1 opGroup (by kernel_rfl) f1
  have f2 := (hx 2 _ rfl).trans (List.getElem?_eq_getElem (by omega))
  obtain ⟨y2, r3⟩ := op_step (t := 26) (off := 3) (k := 1) (n := n) r2 opMsgS (by kernel_rfl) f2
  have f3 := (hx 3 _ rfl).trans (List.getElem?_eq_getElem (by omega))
  obtain ⟨y3, r4⟩ := op_step (t := 27) (off := 4) (k := 1) (n := n) r3 opInt2WS (by kernel_rfl) f3
  have f4 := (hx 4 _ rfl).trans (List.getElem?_eq_getElem (by omega))
  obtain ⟨y4, r5⟩ := op_step (t := 28) (off := 5) (k := 1) (n := n) r4 opEntryS (by kernel_rfl) f4
  have f5 := (hx 5 _ rfl).trans (List.getElem?_eq_getElem (by omega))
  obtain ⟨y5, r6⟩ := op_step (t := 29) (off := 6) (k := 1) (n := n) r5 opStringS (by kernel_rfl) f5
  have f6 := (hx 6 _ rfl).trans (List.getElem?_eq_getElem (by omega))
  obtain ⟨y6, r7⟩ := op_step (t := 4) (off := 7) (k := 1) (n := n) r6 (op_bool Try.underlying4) (by kernel_rfl) f6
  rw [List.take_of_length_le (by omega)] at r7
  exact ⟨_, r7⟩

theorem one_both {us : List Value} {x : CluA} {w : World} (hwf : ∀ (j : Nat) (y : List Int), (cluLed x)[j]? = some y → (Lit.int .i64 (l0 y)).wf = true ∧ (Lit.int .i64 (l1 y)).wf = true) (h : cCluster.rep w 0 us x) (ht : cCluster.tot x ≤ 1048576) :
    Calls Try.prog 6 #[vA us] w (fun e w' => e = .returned (.bool (allN (oneF (cluLed x)) (cluLed x).length)) ∧ Below w.heap.size w w') ∧ Calls Try.prog 8 #[vA us] w (fun e w' => e = .returned (.bool (allN (oneF (cluLed x)) (cluLed x).length)) ∧ Below w.heap.size w w') := by
  obtain ⟨hl, h1, _, ⟨o, c, k4, hn, hat⟩, _⟩ := clu_parts h ht
  refine ⟨sOne_m us _ o c w k4 hn hat, ?_⟩
  refine wrap1 (m := 24) Try.func8 rfl rfl rfl ⟨_, Try.func24, by kernel_rfl, by kernel_rfl⟩ (fun V B hb => ?_)
  exact iOne_m us _ o c w.heap.size V k4 hn (fun j y h => (hat j y h).frm (Fr.of hb)) B B.lt hwf

end Go.Proofs.Ytjiplphfpkhmpaa
