/-
  The program's reading of a number (num, with endsNum) and of a count, by the plain reading; it gives up with 2 where the bytes end too early, with 3 where they are wrong.
-/
import Derived.Test.YtdcbmeiopfdkeaaCTake
import Derived.Test.YtdcbmeiopfdkeaaCRdN
namespace Go.Proofs.Ytdcbmeiopfdkeaa
open Go.RowKit

def endB (c : Int) (k : Nat) : Bool := !(decide ((c = 0 ∧ 0 < k) ∨ (k = 9 ∧ 1 < c)))
theorem endB_t {c : Int} {k : Nat} (h : ¬ ((c = 0 ∧ 0 < k) ∨ (k = 9 ∧ 1 < c))) : endB c k = true := by unfold endB; rw [decide_eq_false h]; rfl
theorem endB_f {c : Int} {k : Nat} (h : (c = 0 ∧ 0 < k) ∨ (k = 9 ∧ 1 < c)) : endB c k = false := by unfold endB; rw [decide_eq_true h]; rfl

set_option maxHeartbeats 1000000 in
theorem endsNum_any (c : Int) (k : Nat) (w : World) (hk : k ≤ 9) (c0 : 0 ≤ c) (c1 : c ≤ 255) :
    Calls Try.prog 58 #[.int .u8 c, .int .i64 k] w fun e w' => e = .returned (.bool (endB c k)) ∧ w = w' := by
  by_cases hc : c = 0
  · subst hc
    by_cases hk0 : 0 < k
    · rw [endB_f (Or.inl ⟨rfl, hk0⟩)]
      go_enter Try.func58, Try.ntmps58
      go_wp2
      go_ret
      exact ⟨rfl, rfl⟩
    · have e0 : k = 0 := by omega
      subst e0
      rw [endB_t (by omega)]
      go_enter Try.func58, Try.ntmps58
      go_wp2
      go_ret
      exact ⟨rfl, rfl⟩
  · have hcb : (c == 0) = false := by rw [beq_eq_false_iff_ne]; exact hc
    by_cases h9 : k = 9
    · subst h9
      by_cases h1 : 1 < c
      · rw [endB_f (Or.inr ⟨rfl, h1⟩)]
        have hd : decide (c ≤ 1) = false := decide_eq_false (by omega)
        clear hc
        go_enter Try.func58, Try.ntmps58
        go_wp2
        go_ret
        exact ⟨rfl, rfl⟩
      · rw [endB_t (by omega)]
        have h1' : c ≤ 1 := by omega
        clear hc h1
        go_enter Try.func58, Try.ntmps58
        go_wp2
        go_ret
        exact ⟨rfl, rfl⟩
    · rw [endB_t (by omega)]
      have h9' : k < 9 := by omega
      clear hc h9
      go_enter Try.func58, Try.ntmps58
      go_wp2
      go_ret
      exact ⟨rfl, rfl⟩

/-- How a reading of a number out of a reader ends. -/
def NumEnd (w : World) (R : Nat) (a : Option Addr) (n cap : Nat) (zs : List Int) (at' : Nat) (e : Ending) (w' : World) : Prop :=
  ((∃ x k, rdN zs at' = .good x k ∧ e = .returned (.int .i64 (wrap64 x)) ∧ Rdr w' R a n cap zs (at' + k)) ∨ (rdN zs at' = .torn ∧ e = .panicked [{ v := .iface 80 (.int .i64 2), recovered := false }]) ∨ (rdN zs at' = .bad ∧ e = .panicked [{ v := .iface 80 (.int .i64 3), recovered := false }])) ∧ w.grownBy w' (some R)

set_option maxHeartbeats 4000000 in
theorem num_any (R : Nat) (a : Option Addr) (n cap at' : Nat) (zs : List Int) (w : World) (h : Rdr w R a n cap zs at') (ho : Oct zs) :
    Calls Try.prog 39 #[.pointer (some ⟨R, 0, none⟩)] w fun e w' => NumEnd w R a n cap zs at' e w' := by
  have HR := hid' h
  have HO := hid' ho
  obtain ⟨hfe, hfe2⟩ := h.few
  have hnc := h.ncap
  have hlen := h.len
  clear h ho
  go_enter Try.func39, Try.ntmps39
  go_wp2_with fail
  go_loopw [3, 6] (fun t3 t6 wr => ∃ (k : Nat) (x : Int), k ≤ 10 ∧ t6 = .int .i64 k ∧ t3 = .int .u64 x ∧ rdF zs at' (10 - k) k x = rdN zs at' ∧ Rdr wr R a n cap zs (at' + k) ∧ w.grownBy wr (some R)) (fun _ t6 _ => 10 - (intOf t6).toNat)
  case atStart => exact ⟨0, 0, by omega, rfl, rfl, rfl, HR.out, World.grownBy.refl _ _⟩
  case round =>
    obtain ⟨k, x, hk, rfl, rfl, hr, hrd, hgr⟩ := hrel
    have HRF := hid' hr
    have HRD := hid' hrd
    have HG := hid' hgr
    have hle := hrd.le
    clear hr hrd hgr
    by_cases h10 : k < 10
    · obtain ⟨f, hf⟩ : ∃ f, 10 - k = f + 1 := ⟨9 - k, by omega⟩
      have HF := hid' hf
      have HF1 := hid' (show 10 - (k + 1) = f by omega)
      clear hf
      by_cases hin : at' + k < n
      · go_wp2_with fail
        refine (take_ok R a n cap (at' + k) zs 1 wr HRD.out (by omega)).mono ?_
        rintro e w1 ⟨a1, c1, rfl, hc1, hc2, hcut, hrd1, hg1⟩
        obtain ⟨p, o, c, rfl, hp, hcell, hz⟩ := hcut 0 (by omega)
        obtain ⟨z0, z1⟩ := HO.out c (List.mem_of_getElem? hz)
        have HZ : Hid (zs[at' + k]? = some c) := by unfold Hid; simpa using hz
        have hcell' : w1.cell? ⟨p, o, none⟩ = some (.int .u8 c) := by simpa using hcell
        have HRD1 : Hid (Rdr w1 R a n cap zs (at' + (k + 1))) := hrd1
        have HG1 := hid' (HG.out.trans hg1)
        clear hcut hz hcell hrd1 hg1
        by_cases h128 : 128 ≤ c
        · have HE : Hid (rdF zs at' (10 - (k + 1)) (k + 1) (acc x c k) = rdN zs at') := by
            unfold Hid; rw [← HRF.out, HF.out, HF1.out, rdF_more HZ.out h128]
          go_wp2_with fail
          go_roundw
          case rel => exact ⟨k + 1, _, by omega, by go_num, rfl, HE.out, HRD1.out, HG1.out⟩
          case measure => simp [intOf]; omega
        · by_cases hb : (c = 0 ∧ 0 < k) ∨ (k = 9 ∧ 1 < c)
          · have HE : Hid (rdN zs at' = .bad) := by unfold Hid; rw [← HRF.out, HF.out]; exact rdF_bad HZ.out h128 hb
            have HB := hid' (endB_f hb)
            clear hb
            go_wp2_with fail
            refine (endsNum_any c k w1 (by omega) z0 z1).mono ?_
            rw [HB.out]
            rintro e w2 ⟨rfl, rfl⟩
            go_wp2_with fail
            exact ⟨rfl, Or.inr (Or.inr ⟨HE.out, rfl⟩), HG1.out⟩
          · have HE : Hid (rdN zs at' = .good (acc x c k) (k + 1)) := by unfold Hid; rw [← HRF.out, HF.out]; exact rdF_good HZ.out h128 hb
            have HB := hid' (endB_t hb)
            clear hb
            go_wp2_with fail
            refine (endsNum_any c k w1 (by omega) z0 z1).mono ?_
            rw [HB.out]
            rintro e w2 ⟨rfl, rfl⟩
            go_wp2_with fail
            go_ret
            exact ⟨Or.inl ⟨_, _, HE.out, rfl, HRD1.out⟩, HG1.out⟩
      · have HE : Hid (rdN zs at' = .torn) := by unfold Hid; rw [← HRF.out, HF.out]; exact rdF_none (List.getElem?_eq_none (by omega))
        go_wp2_with fail
        refine (take_torn R a n cap (at' + k) zs 1 wr HRD.out (by omega) (by omega)).mono ?_
        rintro e w1 ⟨rfl, hg1⟩
        have HG1 := hid' (HG.out.trans hg1)
        clear hg1
        go_wp2_with fail
        exact ⟨rfl, Or.inr (Or.inl ⟨HE.out, rfl⟩), HG1.out⟩
    · have HE : Hid (rdN zs at' = .bad) := by unfold Hid; rw [← HRF.out, show 10 - k = 0 from by omega]; rfl
      go_wp2_with fail
      exact ⟨rfl, Or.inr (Or.inr ⟨HE.out, rfl⟩), HG.out⟩

/-- How a reading of a count ends. -/
def CntEnd (most : Int) (w : World) (R : Nat) (a : Option Addr) (n cap : Nat) (zs : List Int) (at' : Nat) (e : Ending) (w' : World) : Prop :=
  ((∃ x k, rdN zs at' = .good x k ∧ 0 ≤ wrap64 x ∧ wrap64 x ≤ most ∧ e = .returned (.int .i64 (wrap64 x)) ∧ Rdr w' R a n cap zs (at' + k)) ∨ (rdN zs at' = .torn ∧ e = .panicked [{ v := .iface 80 (.int .i64 2), recovered := false }]) ∨ ((rdN zs at' = .bad ∨ ∃ x k, rdN zs at' = .good x k ∧ ¬ (0 ≤ wrap64 x ∧ wrap64 x ≤ most)) ∧ e = .panicked [{ v := .iface 80 (.int .i64 3), recovered := false }])) ∧ w.grownBy w' (some R)

set_option maxHeartbeats 4000000 in
theorem count_any (most : Int) (R : Nat) (a : Option Addr) (n cap at' : Nat) (zs : List Int) (w : World) (h : Rdr w R a n cap zs at') (ho : Oct zs) :
    Calls Try.prog 61 #[.pointer (some ⟨R, 0, none⟩), .int .i64 most] w fun e w' => CntEnd most w R a n cap zs at' e w' := by
  have HR := hid' h
  have HO := hid' ho
  clear h ho
  go_enter Try.func61, Try.ntmps61
  go_wp2_with fail
  refine (num_any R a n cap at' zs w HR.out HO.out).mono ?_
  rintro e w1 ⟨⟨x, k, hg, rfl, hrd⟩ | ⟨hg, rfl⟩ | ⟨hg, rfl⟩, hgr⟩
  · have HG := hid' hg
    have HRD := hid' hrd
    have HGR := hid' hgr
    clear hg hrd hgr
    generalize hy : wrap64 x = y
    have HY := hid' hy
    clear hy
    by_cases h0 : 0 ≤ y
    · by_cases h1 : y ≤ most
      · go_wp2_with fail
        go_ret
        exact ⟨Or.inl ⟨x, k, HG.out, by rw [HY.out]; exact h0, by rw [HY.out]; exact h1, by rw [HY.out]; rfl, HRD.out⟩, HGR.out⟩
      · go_wp2_with fail
        exact ⟨rfl, Or.inr (Or.inr ⟨Or.inr ⟨x, k, HG.out, by rw [HY.out]; omega⟩, rfl⟩), HGR.out⟩
    · go_wp2_with fail
      exact ⟨rfl, Or.inr (Or.inr ⟨Or.inr ⟨x, k, HG.out, by rw [HY.out]; omega⟩, rfl⟩), HGR.out⟩
  · have HG := hid' hg
    have HGR := hid' hgr
    clear hg hgr
    go_wp2_with fail
    exact ⟨rfl, Or.inr (Or.inl ⟨HG.out, rfl⟩), HGR.out⟩
  · have HG := hid' hg
    have HGR := hid' hgr
    clear hg hgr
    go_wp2_with fail
    exact ⟨rfl, Or.inr (Or.inr ⟨Or.inl HG.out, rfl⟩), HGR.out⟩

end Go.Proofs.Ytdcbmeiopfdkeaa
