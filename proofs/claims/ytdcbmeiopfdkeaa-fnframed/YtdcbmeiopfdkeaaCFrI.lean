/-
  The program's reader of frames, by the plain reading.
-/
import Derived.Test.YtdcbmeiopfdkeaaCUnf
import Derived.Test.YtdcbmeiopfdkeaaCFrm
import Derived.Test.YtdcbmeiopfdkeaaCEq
namespace Go.Proofs.Ytdcbmeiopfdkeaa
open Go.RowKit

theorem Cut.gr {w w' : World} {R : Nat} {a' : Option Addr} {c k : Nat} {zs : List Int} (h : Cut w R a' c zs k) (hR : R < w.heap.size) (g : w.grownBy w' (some R)) : Cut w' R a' c zs k := fun j hj => by
  obtain ⟨p, o, z, ha, hp, hv, hz⟩ := h j hj
  exact ⟨p, o, z, ha, hp, (g.cell_far ⟨p, o + j, none⟩ (Nat.lt_trans hp hR) (by simp; omega)).trans hv, hz⟩
theorem Cut.later {w w' : World} {R : Nat} {a' : Option Addr} {c k : Nat} {zs : List Int} (h : Cut w R a' c zs k) (hR : R < w.heap.size) (b : Below w.heap.size w w') : Cut w' R a' c zs k := fun j hj => by
  obtain ⟨p, o, z, ha, hp, hv, hz⟩ := h j hj
  exact ⟨p, o, z, ha, hp, (b.cell (p := ⟨p, o + j, none⟩) (Nat.lt_trans hp hR)).trans hv, hz⟩

theorem Rdr.gr {w w' : World} {R g : Nat} {a : Option Addr} {n cap at' : Nat} {zs : List Int} (h : Rdr w R a n cap zs at') (b : w.grownBy w' (some g)) (hg : R < g) : Rdr w' R a n cap zs at' := by
  have hR := h.lt
  refine ⟨(b.cell_far ⟨R, 0, none⟩ hR (by simp; omega)).trans h.row, (b.cell_far ⟨R, 1, none⟩ hR (by simp; omega)).trans h.idx, (b.frozen_far ⟨R, 1, none⟩ hR (by simp; omega)).trans h.frz, h.le, h.len, h.ncap, h.few, fun j hj => ?_⟩
  obtain ⟨p, o, z, ha, hp, hv, hz⟩ := h.byt j hj
  exact ⟨p, o, z, ha, hp, (b.cell_far ⟨p, o + j, none⟩ (Nat.lt_trans hp hR) (by simp; omega)).trans hv, hz⟩
theorem gr_app {w X Y : World} {R g : Nat} (h : w.grownBy X (some R)) (b : X.grownBy Y (some g)) (hg : w.heap.size ≤ g) : w.grownBy Y (some R) :=
  ⟨b.os.trans h.os, b.tape.trans h.tape, b.output.trans h.output, Nat.le_trans h.size b.size, fun k hk hne => (b.block k (Nat.lt_of_lt_of_le hk h.size) (by simp; omega)).trans (h.block k hk hne)⟩

/-- How a reading of a frame out of a reader ends. -/
def FrmEnd (w : World) (R : Nat) (a : Option Addr) (n cap : Nat) (zs : List Int) (at' : Nat) (e : Ending) (w' : World) : Prop :=
  ((∃ ys j g c, ufIn zs at' = ⟨ys, ((j : Nat) : Int), 0⟩ ∧ e = .returned (.slice (some ⟨g, 0, none⟩) ys.length c) ∧ Own w' (R + 1) (.slice (some ⟨g, 0, none⟩) ys.length c) ys ∧ Rdr w' R a n cap zs j) ∨ (∃ f : Int, ufIn zs at' = ⟨[], at', f⟩ ∧ f ≠ 0 ∧ e = .panicked [{ v := .iface 80 (.int .i64 f), recovered := false }])) ∧ w.grownBy w' (some R)

set_option maxHeartbeats 8000000 in
theorem frame_any (R : Nat) (a : Option Addr) (n cap at' : Nat) (zs : List Int) (w : World) (h : Rdr w R a n cap zs at') (ho : Oct zs) (hn6 : n ≤ 9000000) :
    Calls Try.prog 44 #[.pointer (some ⟨R, 0, none⟩)] w fun e w' => FrmEnd w R a n cap zs at' e w' := by
  have HR := hid' h
  have HO := hid' ho
  obtain ⟨hfe, hfe2⟩ := h.few
  have hnc := h.ncap
  have hlen := h.len
  have hRl := h.lt
  have cI := h.idx
  clear h ho
  go_enter Try.func44, Try.ntmps44
  go_wp2_with fail
  refine (count_any 20000 R a n cap at' zs w HR.out HO.out).mono ?_
  rintro e w1 ⟨⟨x, k, hg, h0, h1, rfl, hrd⟩ | ⟨hg, rfl⟩ | ⟨hg, rfl⟩, hgr⟩
  · obtain ⟨c, hc⟩ := Int.eq_ofNat_of_zero_le h0
    have HG := hid' hg
    have HC := hid' hc
    have HRD := hid' hrd
    have HGR := hid' hgr
    have hle := hrd.le
    have hkp := (rdN_le hg).2
    rw [hc] at h1 ⊢
    clear hg hrd hgr hc h0 cI
    by_cases hin : at' + k + c ≤ n
    · go_wp2_with fail
      refine (take_ok2 R a n cap (at' + k) zs c w1 HRD.out hin).mono ?_
      rintro e w2 ⟨a1, c1, rfl, hnn, hc1, hc2, hcut, hrd1, hg1⟩
      have HA1 : Hid (a1 = none → c1 = 0) := fun e => by
        obtain ⟨p, o, z, ha, _⟩ := HRD.out.byt 0 (by omega)
        rw [hnn e] at ha; cases ha
      have HCut := hid' hcut
      have HRD1 := hid' hrd1
      have HG1 := hid' (HGR.out.trans hg1)
      have r0 := hrd1.row
      have r1 := hrd1.idx
      have hR2 := hrd1.lt
      have ncap : ¬ cap = at' := by omega
      have q1 : (at' : Int) ≤ ((at' + k + c : Nat) : Int) := by omega
      have q2 : ((at' + k + c : Nat) : Int) ≤ (cap : Int) := by omega
      clear hcut hrd1 hg1 hnn
      go_wp2_with fail
      go_region
      all_goals
        go_wp2_with fail
        by_cases hin4 : at' + k + c + 4 ≤ n
        · refine (take_ok R a n cap (at' + k + c) zs 4 w2.drew HRD1.out.drew hin4).mono ?_
          rintro e w3 ⟨a3, c3, rfl, hc3, hc4, hcut3, hrd3, hg3⟩
          have hR3 := hrd3.lt
          have HCut3 := hid' hcut3
          have HCutI := hid' (Cut.gr (w := w2.drew) HCut.out hR2 hg3)
          have HRD3 := hid' hrd3
          have HG3 := hid' ((gr_drew' HG1.out).trans hg3)
          have hsl := sub_len (zs := zs) (k := at') (c := k + c) (by omega)
          have hsum := sumBytes_any (a.map fun x => x.add at') (cap - at') (sub zs at' (k + c)) w3 ((hrd3.cut at' (k + c) (by omega)).byt (Nat.le_of_lt hR3) (by omega)) (sub_oct HO.out _ _) (by omega)
          rw [hsl, show k + c = at' + k + c - at' from by omega] at hsum
          rw [show at' + k + c - at' = k + c from by omega] at hsum ⊢
          have HSum := hid' hsum
          clear hcut3 hrd3 hg3 hsl hsum HCut HRD1 HG1
          go_wp2_with fail
          refine HSum.out.mono ?_
          rintro e w4 ⟨rfl, o4, b4⟩
          have HO4 := hid' o4
          have HCutI4 := hid' (HCutI.out.later hR3 b4)
          have HCut4 := hid' (HCut3.out.later hR3 b4)
          have HRD4 := hid' (HRD3.out.later b4)
          have HG4 := hid' (gr_below HG3.out b4)
          have hR4 : R < w4.heap.size := Nat.lt_of_lt_of_le hR3 b4.size
          have heq := equal_any a3 (some ⟨w3.heap.size, 0, none⟩) c3 4 (sub zs (at' + k + c) 4) (lit (crc (sub zs at' (k + c)))) w4 (HCut4.out.byt (Nat.le_of_lt hR4) (by omega)) o4.bytA (by have := sub_len (zs := zs) (k := at' + k + c) (c := 4) (by omega); omega) (by simp [lit])
          rw [sub_len (zs := zs) (k := at' + k + c) (c := 4) (by omega), show (lit (crc (sub zs at' (k + c)))).length = 4 from rfl] at heq
          have HEq := hid' heq
          clear o4 b4 heq HSum HCut3 HCutI HRD3 HG3
          go_wp2_with fail
          refine HEq.out.mono ?_
          by_cases hs : lit (crc (sub zs at' (k + c))) = sub zs (at' + k + c) 4
          · rw [← hs, eqL_same]
            rintro e w5 ⟨rfl, b5⟩
            have HV := hid' (ufIn_good HG.out HC.out (by omega) (by omega) hs)
            have HCutI5 := hid' (HCutI4.out.later hR4 b5)
            have HRD5 := hid' (HRD4.out.later b5)
            have HG5 := hid' (gr_below HG4.out b5)
            have hR5 : R < w5.heap.size := Nat.lt_of_lt_of_le hR4 b5.size
            have hci := sub_len (zs := zs) (k := at' + k) (c := c) (by omega)
            have HS5 : Hid (Byt (w5.alloc (.cells #[] 5)) a1 (sub zs (at' + k) c)) := (HCutI5.out.byt (Nat.le_of_lt hR5) (by omega)).later ((Below.refl _ w5).alloc (Nat.le_refl _) _)
            have HOW : Hid (Own (w5.alloc (.cells #[] 5)) (R + 1) (.slice (some ⟨w5.heap.size, 0, none⟩) 0 0) []) := World.ownsRow_lit w5 #[] 0 hR5 (by unfold maxLen; omega) (by simp)
            have HCI := hid' hci
            have HRD6 := hid' (HRD5.out.later ((Below.refl _ w5).alloc (Nat.le_refl _) (.cells #[] 5)))
            have HG6 := hid' (gr_below HG5.out ((Below.refl _ w5).alloc (Nat.le_refl _) (.cells #[] 5)))
            have hz5 : R + 1 ≤ (w5.alloc (.cells #[] 5)).heap.size := by simp; omega
            have hsrc := src_byt c1 HS5.out HA1.out
            rw [HCI.out] at hsrc
            have HSrc := hid' hsrc
            clear b5 hs hci HCutI4 HCut4 HRD4 HG4 HEq hsrc
            go_wp2_with (at_builtin; refine wpList_app _ rfl (.tmp 31) (.tmp 32) 22 rfl (R + 1) w5.heap.size 0 0 [] (sub zs (at' + k) c) _ _ rfl rfl rfl HOW.out rfl (by rw [HCI.out]; exact HSrc.out) (by rw [HCI.out]; omega) hz5 ?_; intro h' c' w6 hown hgr hat)
            have HO6 : Hid (Own w6 (R + 1) (.slice (some ⟨h', 0, none⟩) (sub zs (at' + k) c).length c') (sub zs (at' + k) c)) := by simpa using hid' hown
            have HRD7 := hid' (HRD6.out.gr hgr hR5)
            have HG7 := hid' (gr_app HG6.out hgr (by have := HG5.out.size; omega))
            clear hown hgr hat
            go_wp2_with fail
            go_ret
            exact ⟨Or.inl ⟨_, _, h', c', HV.out, rfl, HO6.out, HRD7.out⟩, HG7.out⟩
          · rw [show eqL (sub zs (at' + k + c) 4) (lit (crc (sub zs at' (k + c)))) = false from decide_eq_false (fun e => hs e.symm)]
            rintro e w5 ⟨rfl, b5⟩
            have HV := hid' (ufIn_sum HG.out HC.out (by omega) (by omega) hs)
            have HG5 := hid' (gr_below HG4.out b5)
            clear b5 hs
            go_wp2_with fail
            exact ⟨rfl, Or.inr ⟨3, HV.out, by omega, rfl⟩, HG5.out⟩
        · have HV := hid' (ufIn_cut HG.out (by rw [HC.out]; omega) (by rw [HC.out]; omega))
          refine (take_torn R a n cap (at' + k + c) zs 4 w2.drew HRD1.out.drew (by omega) (by omega)).mono ?_
          rintro e w3 ⟨rfl, hg3⟩
          have HG3 := hid' ((gr_drew' HG1.out).trans hg3)
          clear hg3
          go_wp2_with fail
          exact ⟨rfl, Or.inr ⟨2, HV.out, by omega, rfl⟩, HG3.out⟩
    · have HV := hid' (ufIn_cut HG.out (by rw [HC.out]; omega) (by rw [HC.out]; omega))
      go_wp2_with fail
      refine (take_torn R a n cap (at' + k) zs c w1 HRD.out (by omega) (by omega)).mono ?_
      rintro e w2 ⟨rfl, hg1⟩
      have HG1 := hid' (HGR.out.trans hg1)
      clear hg1
      go_wp2_with fail
      exact ⟨rfl, Or.inr ⟨2, HV.out, by omega, rfl⟩, HG1.out⟩
  · have HV := hid' (ufIn_torn hg)
    have HGR := hid' hgr
    clear hg hgr
    go_wp2_with fail
    exact ⟨rfl, Or.inr ⟨2, HV.out, by omega, rfl⟩, HGR.out⟩
  · have HV : Hid (ufIn zs at' = ⟨[], at', 3⟩) := by
      rcases hg with hg | ⟨x, k, hg, hno⟩
      · exact ufIn_bad hg
      · exact ufIn_far hg hno
    have HGR := hid' hgr
    clear hg hgr
    go_wp2_with fail
    exact ⟨rfl, Or.inr ⟨3, HV.out, by omega, rfl⟩, HGR.out⟩

end Go.Proofs.Ytdcbmeiopfdkeaa
