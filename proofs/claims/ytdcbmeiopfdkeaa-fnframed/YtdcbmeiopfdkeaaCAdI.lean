/-
  The reading of an address out of bytes, as plain mathematics, and the program's reader of addresses by it.
-/
import Derived.Test.YtdcbmeiopfdkeaaCWrd
import Derived.Deep.AppendLies
namespace Go.Proofs.Ytdcbmeiopfdkeaa
open Go.RowKit

def gaNo : Value := .tuple #[.agg #[.bool false, .int .i64 0, .int .i64 0], .int .i64 0, .bool false]
def ga4 (zs : List Int) (k : Nat) : Value := .agg #[.bool false, .int .i64 0, .int .i64 (wv (sub zs (k + 1) 4)).toInt]
def ga6 (zs : List Int) (k : Nat) : Value := .agg #[.bool true, .int .i64 (wv (sub zs (k + 1) 8)).toInt, .int .i64 (wv (sub zs (k + 9) 8)).toInt]
def gaV (zs : List Int) (a : Int) : Value := if a < 0 then gaNo else
  if zs[a.toNat]? = some 4 ∧ a + 5 ≤ zs.length then .tuple #[ga4 zs a.toNat, .int .i64 (a + 5), .bool true]
  else if zs[a.toNat]? = some 6 ∧ a + 17 ≤ zs.length then .tuple #[ga6 zs a.toNat, .int .i64 (a + 17), .bool true]
  else gaNo
theorem gaV_neg {zs : List Int} {a : Int} (h : a < 0) : gaV zs a = gaNo := by unfold gaV; rw [if_pos h]
theorem gaV_4 {zs : List Int} {k : Nat} (h : zs[k]? = some 4) (hl : k + 5 ≤ zs.length) : gaV zs (k : Int) = .tuple #[ga4 zs k, .int .i64 ((k : Int) + 5), .bool true] := by
  unfold gaV; rw [if_neg (by omega), Int.toNat_natCast, if_pos ⟨h, by omega⟩]
theorem gaV_6 {zs : List Int} {k : Nat} (h : zs[k]? = some 6) (hl : k + 17 ≤ zs.length) : gaV zs (k : Int) = .tuple #[ga6 zs k, .int .i64 ((k : Int) + 17), .bool true] := by
  unfold gaV; rw [if_neg (by omega), Int.toNat_natCast, if_neg (by rw [h]; simp), if_pos ⟨h, by omega⟩]
theorem gaV_no {zs : List Int} {k : Nat} (h4 : ¬ (zs[k]? = some 4 ∧ k + 5 ≤ zs.length)) (h6 : ¬ (zs[k]? = some 6 ∧ k + 17 ≤ zs.length)) : gaV zs (k : Int) = gaNo := by
  unfold gaV; rw [if_neg (by omega), Int.toNat_natCast, if_neg (fun h => h4 ⟨h.1, by omega⟩), if_neg (fun h => h6 ⟨h.1, by omega⟩)]

/-- How a reading of an address out of a reader ends. -/
def AdrEnd (w : World) (R : Nat) (a : Option Addr) (n cap : Nat) (zs : List Int) (at' : Nat) (e : Ending) (w' : World) : Prop :=
  ((∃ s h l j, gaV zs (at' : Int) = .tuple #[.agg #[.bool s, .int .i64 h, .int .i64 l], .int .i64 ((j : Nat) : Int), .bool true] ∧ e = .returned (.agg #[.bool s, .int .i64 h, .int .i64 l]) ∧ Rdr w' R a n cap zs j) ∨ (∃ f : Int, gaV zs (at' : Int) = gaNo ∧ f ≠ 0 ∧ e = .panicked [{ v := .iface 80 (.int .i64 f), recovered := false }])) ∧ w.grownBy w' (some R)

/-- A box of three cells that the call itself has made lies on where another block alone is turned. -/
theorem box_far {w w1 : World} {R : Nat} {x y z : Value} {T : TypeId} (hR : R < w.heap.size) (h : (w.alloc (.cells #[x, y, z] T)).grownBy w1 (some R)) :
    (w1.cell? ⟨w.heap.size, 0, none⟩ = some x ∧ w1.cell? ⟨w.heap.size, 1, none⟩ = some y ∧ w1.cell? ⟨w.heap.size, 2, none⟩ = some z) ∧ w1.frozen? ⟨w.heap.size, 0, none⟩ = false ∧ w1.frozen? ⟨w.heap.size, 1, none⟩ = false ∧ w1.frozen? ⟨w.heap.size, 2, none⟩ = false := by
  have hne : some w.heap.size ≠ some R := by simp; omega
  refine ⟨⟨?_, ?_, ?_⟩, ?_, ?_, ?_⟩
  · rw [h.cell_far ⟨w.heap.size, 0, none⟩ (by simp) hne]; simp [go_sem]
  · rw [h.cell_far ⟨w.heap.size, 1, none⟩ (by simp) hne]; simp [go_sem]
  · rw [h.cell_far ⟨w.heap.size, 2, none⟩ (by simp) hne]; simp [go_sem]
  · rw [h.frozen_far ⟨w.heap.size, 0, none⟩ (by simp) hne]; simp [go_sem]
  · rw [h.frozen_far ⟨w.heap.size, 1, none⟩ (by simp) hne]; simp [go_sem]
  · rw [h.frozen_far ⟨w.heap.size, 2, none⟩ (by simp) hne]; simp [go_sem]
/-- Stores into a new block turn nothing old. -/
theorem gr_new {w w' : World} {R B : Nat} (h : w.grownBy w' (some R)) (hB : w.heap.size ≤ B) (j : Nat) (v : Value) : w.grownBy (w'.setCell ⟨B, j, none⟩ v) (some R) :=
  ⟨h.os, h.tape, h.output, by have := h.size; simpa using this, fun k hk hne => (Below.heap_setCell w' ⟨B, j, none⟩ v k (by show k ≠ B; omega)).trans (h.block k hk hne)⟩
theorem Rdr.far {w : World} {R : Nat} {a : Option Addr} {n cap at' : Nat} {zs : List Int} (h : Rdr w R a n cap zs at') {B : Nat} (hB : R < B) (j : Nat) (v : Value) : Rdr (w.setCell ⟨B, j, none⟩ v) R a n cap zs at' := by
  refine ⟨(World.cell?_setCell_far _ _ _ _ (by show B ≠ R; omega)).trans h.row, (World.cell?_setCell_far _ _ _ _ (by show B ≠ R; omega)).trans h.idx, by simp [go_sem, h.frz], h.le, h.len, h.ncap, h.few, fun i hi => ?_⟩
  obtain ⟨p, o, z, ha, hp, hv, hz⟩ := h.byt i hi
  exact ⟨p, o, z, ha, hp, (World.cell?_setCell_far _ _ _ _ (by show B ≠ p; omega)).trans hv, hz⟩

set_option maxHeartbeats 4000000 in
theorem addr_any (R : Nat) (a : Option Addr) (n cap at' : Nat) (zs : List Int) (w : World) (h : Rdr w R a n cap zs at') (ho : Oct zs) :
    Calls Try.prog 53 #[.pointer (some ⟨R, 0, none⟩)] w fun e w' => AdrEnd w R a n cap zs at' e w' := by
  have hRl := h.lt
  have hlen := h.len
  have hle := h.le
  have HR : Hid (Rdr (w.alloc (.cells #[.bool false, .int .i64 0, .int .i64 0] 38)) R a n cap zs at') := h.later ((Below.refl _ w).alloc (Nat.le_refl _) _)
  have HG0 : Hid (w.grownBy (w.alloc (.cells #[.bool false, .int .i64 0, .int .i64 0] 38)) (some R)) := World.grownBy_alloc w _ _
  have HO := hid' ho
  clear h ho
  by_cases hin : at' + 1 ≤ n
  · go_enter Try.func53, Try.ntmps53
    go_wp2_with fail
    refine (take_ok R a n cap at' zs 1 _ HR.out hin).mono ?_
    rintro e w1 ⟨a1, c1, rfl, hc1, hc2, hcut, hrd1, hg1⟩
    obtain ⟨p, o, c, rfl, hp, hcell, hz⟩ := hcut 0 (by omega)
    obtain ⟨z0, z1⟩ := HO.out c (List.mem_of_getElem? hz)
    have HZ : Hid (zs[at']? = some c) := by unfold Hid; simpa using hz
    have hcell' : w1.cell? ⟨p, o, none⟩ = some (.int .u8 c) := by simpa using hcell
    have HRD := hid' hrd1
    have HG1 := hid' hg1
    clear hcut hz hcell hrd1 hg1
    by_cases h4 : c = 4
    · subst h4
      go_wp2_with fail
      refine (word_any 4 (by omega) R a n cap (at' + 1) zs w1 HRD.out HO.out).mono ?_
      rintro e w2 ⟨⟨hok, rfl, hrd2⟩ | ⟨hno, rfl⟩, hg2⟩
      · obtain ⟨⟨b0, b1, b2⟩, f0, f1, f2⟩ := box_far hRl (HG1.out.trans hg2)
        have HV : Hid (gaV zs (at' : Int) = .tuple #[.agg #[.bool false, .int .i64 0, .int .i64 (wv (sub zs (at' + 1) 4)).toInt], .int .i64 ((at' + 1 + 4 : Nat) : Int), .bool true]) := by
          have := gaV_4 HZ.out (by omega); unfold Hid; rw [this]; unfold ga4; congr 3
        have HRD2 := hid' hrd2
        have HG2 := hid' (HG0.out.trans (HG1.out.trans hg2))
        clear hrd2 hg2
        generalize (wv (sub zs (at' + 1) 4)).toInt = L at *
        go_wp2_with fail
        refine bodyPost_ret (v := .agg #[.bool false, .int .i64 0, .int .i64 L]) (by simp [results, Try.results53, go_sem, b0, b1, b2]) rfl ⟨Or.inl ⟨_, _, _, _, HV.out, rfl, ?_⟩, ?_⟩
        · exact ((HRD2.out.far hRl _ _).far hRl _ _).far hRl _ _
        · exact gr_new (gr_new (gr_new HG2.out (Nat.le_refl _) _ _) (Nat.le_refl _) _ _) (Nat.le_refl _) _ _
      · have HV : Hid (gaV zs (at' : Int) = gaNo) := gaV_no (fun hh => hno (by omega)) (fun hh => by have := HZ.out; rw [this] at hh; simp at hh)
        have HG2 := hid' (HG0.out.trans (HG1.out.trans hg2))
        clear hg2
        go_wp2_with fail
        exact ⟨rfl, Or.inr ⟨2, HV.out, by omega, rfl⟩, HG2.out⟩
    · have hb4 : (c == 4) = false := by rw [beq_eq_false_iff_ne]; exact h4
      by_cases h6 : c = 6
      · subst h6
        clear h4
        go_wp2_with fail
        refine (word_any 8 (by omega) R a n cap (at' + 1) zs w1 HRD.out HO.out).mono ?_
        rintro e w2 ⟨⟨hok, rfl, hrd2⟩ | ⟨hno, rfl⟩, hg2⟩
        · have HRD2 := hid' hrd2
          have HG2 := hid' (HG1.out.trans hg2)
          clear hrd2 hg2
          go_wp2_with fail
          refine (word_any 8 (by omega) R a n cap (at' + 1 + 8) zs w2 HRD2.out HO.out).mono ?_
          rintro e w3 ⟨⟨hok3, rfl, hrd3⟩ | ⟨hno, rfl⟩, hg3⟩
          · obtain ⟨⟨b0, b1, b2⟩, f0, f1, f2⟩ := box_far hRl (HG2.out.trans hg3)
            have HV : Hid (gaV zs (at' : Int) = .tuple #[.agg #[.bool true, .int .i64 (wv (sub zs (at' + 1) 8)).toInt, .int .i64 (wv (sub zs (at' + 1 + 8) 8)).toInt], .int .i64 ((at' + 1 + 8 + 8 : Nat) : Int), .bool true]) := by
              have := gaV_6 HZ.out (by omega); unfold Hid; rw [this]; unfold ga6; congr 3
            have HRD3 := hid' hrd3
            have HG3 := hid' (HG0.out.trans (HG2.out.trans hg3))
            clear hrd3 hg3
            generalize (wv (sub zs (at' + 1) 8)).toInt = H at *
            generalize (wv (sub zs (at' + 1 + 8) 8)).toInt = L at *
            go_wp2_with fail
            refine bodyPost_ret (v := .agg #[.bool true, .int .i64 H, .int .i64 L]) (by simp [results, Try.results53, go_sem, b0, b1, b2]) rfl ⟨Or.inl ⟨_, _, _, _, HV.out, rfl, ?_⟩, ?_⟩
            · exact ((HRD3.out.far hRl _ _).far hRl _ _).far hRl _ _
            · exact gr_new (gr_new (gr_new HG3.out (Nat.le_refl _) _ _) (Nat.le_refl _) _ _) (Nat.le_refl _) _ _
          · have HV : Hid (gaV zs (at' : Int) = gaNo) := gaV_no (fun hh => by have := HZ.out; rw [this] at hh; simp at hh) (fun hh => hno (by omega))
            have HG3 := hid' (HG0.out.trans (HG2.out.trans hg3))
            clear hg3
            go_wp2_with fail
            exact ⟨rfl, Or.inr ⟨2, HV.out, by omega, rfl⟩, HG3.out⟩
        · have HV : Hid (gaV zs (at' : Int) = gaNo) := gaV_no (fun hh => by have := HZ.out; rw [this] at hh; simp at hh) (fun hh => hno (by omega))
          have HG2 := hid' (HG0.out.trans (HG1.out.trans hg2))
          clear hg2
          go_wp2_with fail
          exact ⟨rfl, Or.inr ⟨2, HV.out, by omega, rfl⟩, HG2.out⟩
      · have hb6 : (c == 6) = false := by rw [beq_eq_false_iff_ne]; exact h6
        have HV : Hid (gaV zs (at' : Int) = gaNo) := gaV_no (fun hh => by have := HZ.out; rw [this] at hh; simp at hh; omega) (fun hh => by have := HZ.out; rw [this] at hh; simp at hh; omega)
        have HG2 := hid' (HG0.out.trans HG1.out)
        clear h4 h6
        go_wp2_with fail
        exact ⟨rfl, Or.inr ⟨3, HV.out, by omega, rfl⟩, HG2.out⟩
  · have HV : Hid (gaV zs (at' : Int) = gaNo) := gaV_no (fun hh => by omega) (fun hh => by omega)
    go_enter Try.func53, Try.ntmps53
    go_wp2_with fail
    refine (take_torn R a n cap at' zs 1 _ HR.out (by omega) (by omega)).mono ?_
    rintro e w1 ⟨rfl, hg1⟩
    have HG1 := hid' (HG0.out.trans hg1)
    clear hg1
    go_wp2_with fail
    exact ⟨rfl, Or.inr ⟨2, HV.out, by omega, rfl⟩, HG1.out⟩

end Go.Proofs.Ytdcbmeiopfdkeaa
