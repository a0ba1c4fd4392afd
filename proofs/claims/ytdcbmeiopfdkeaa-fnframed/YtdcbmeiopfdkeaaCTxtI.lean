/-
  The reading of a text out of bytes, as plain mathematics; the specification's GetText and the program's reader of texts, each by it.
-/
import Derived.Test.YtdcbmeiopfdkeaaCNumI
import Derived.Laws.BytesString
import Derived.Laws.Cells
namespace Go.Proofs.Ytdcbmeiopfdkeaa
open Go.RowKit

def strOf (ns : List Int) : ByteArray := ns.foldl (fun r n => r.push (UInt8.ofNat n.toNat)) ByteArray.empty
theorem conv_str (w : World) (a : Option Addr) (n cap : Nat) (ns : List Int) (hn : n = ns.length) (h : Byt w a ns) : (convert 22 9 (.slice a n cap)).run Try.prog w = .ok (.string (strOf ns)) w := by
  subst hn
  rw [run_convert_bytes_string w 22 9 5 a ns.length cap Try.underlying22 Try.underlying5 Try.underlying9]
  cases a with
  | none =>
    have : ns = [] := by
      cases ns with
      | nil => rfl
      | cons z t => obtain ⟨p, o, z', e, _⟩ := h 0 (by simp); cases e
    subst this
    rfl
  | some ad =>
    refine run_bytesToString w ad ns.length cap ns ?_
    have hl := run_loadCells_list (P := Try.prog) (w := w) ad (ns.map (Value.int .u8)) (fun j u hu => by
      rw [List.getElem?_map] at hu
      obtain ⟨z, hz, rfl⟩ := Option.map_eq_some_iff.1 hu
      have hj : j < ns.length := by rcases Nat.lt_or_ge j ns.length with h1 | h1; exact h1; rw [List.getElem?_eq_none h1] at hz; cases hz
      obtain ⟨p, o, z', e, hp, hc', hz'⟩ := h j hj
      cases e
      rw [hz] at hz'
      cases hz'
      have ea : (⟨p, o, none⟩ : Addr).add j = ⟨p, o + j, none⟩ := by unfold Addr.add; split <;> simp_all
      rw [ea]; exact hc')
    rw [List.length_map] at hl
    exact hl

/-- A part of a row of bytes. -/
def sub (zs : List Int) (k c : Nat) : List Int := (zs.drop k).take c
theorem sub_len {zs : List Int} {k c : Nat} (h : k + c ≤ zs.length) : (sub zs k c).length = c := by unfold sub; simp; omega
theorem sub_at {zs : List Int} {k c j : Nat} (h : j < c) : (sub zs k c)[j]? = zs[k + j]? := by unfold sub; rw [List.getElem?_take, if_pos h, List.getElem?_drop]
theorem sub_oct {zs : List Int} (h : Oct zs) (k c : Nat) : Oct (sub zs k c) := fun z hz => h z (List.mem_of_mem_drop (List.mem_of_mem_take hz))
theorem Byt.cut {w : World} {a : Option Addr} {zs : List Int} (h : Byt w a zs) (k c : Nat) (hk : k + c ≤ zs.length) : Byt w (a.map fun x => x.add k) (sub zs k c) := fun j hj => by
  rw [sub_len hk] at hj
  obtain ⟨p, o, z, ha, hp, hv, hz⟩ := h (k + j) (by omega)
  subst ha
  refine ⟨p, o + k, z, ?_, hp, by rw [Nat.add_assoc]; exact hv, by rw [sub_at hj]; exact hz⟩
  simp [Addr.add_lit]
theorem Cut.byt {w : World} {R : Nat} {a' : Option Addr} {c at' : Nat} {zs : List Int} (h : Cut w R a' c zs at') (hR : R ≤ w.heap.size) (hk : at' + c ≤ zs.length) : Byt w a' (sub zs at' c) := fun j hj => by
  rw [sub_len hk] at hj
  obtain ⟨p, o, z, ha, hp, hv, hz⟩ := h j hj
  exact ⟨p, o, z, ha, by omega, hv, by rw [sub_at hj]; exact hz⟩

theorem rdF_le {zs : List Int} {at' : Nat} : ∀ (f k0 : Nat) (x0 x : Int) (k : Nat), rdF zs at' f k0 x0 = .good x k → at' + k ≤ zs.length ∧ k0 < k ∧ k ≤ k0 + f
  | 0, _, _, _, _, h => by cases h
  | f + 1, k0, x0, x, k, h => by
      cases hz : zs[at' + k0]? with
      | none => rw [rdF_none hz] at h; cases h
      | some c =>
        have hl : at' + k0 < zs.length := by rcases Nat.lt_or_ge (at' + k0) zs.length with h1 | h1; exact h1; rw [List.getElem?_eq_none h1] at hz; cases hz
        by_cases hc : 128 ≤ c
        · rw [rdF_more hz hc] at h
          have := rdF_le f (k0 + 1) _ x k h
          omega
        · by_cases hb : (c = 0 ∧ 0 < k0) ∨ (k0 = 9 ∧ 1 < c)
          · rw [rdF_bad hz hc hb] at h; cases h
          · rw [rdF_good hz hc hb] at h
            cases h
            omega
theorem rdN_le {zs : List Int} {at' : Nat} {x : Int} {k : Nat} (h : rdN zs at' = .good x k) : at' + k ≤ zs.length ∧ 0 < k ∧ k ≤ 10 := by
  have := rdF_le 10 0 0 x k h; omega

/-- What GetText answers. -/
def gtNo : Value := .tuple #[.string ⟨#[]⟩, .int .i64 0, .bool false]
def gtV (zs : List Int) (a : Int) : Value := if a < 0 then gtNo else match rdN zs a.toNat with
  | .good x k => if 0 ≤ wrap64 x ∧ wrap64 x ≤ (zs.length : Int) - (a + k) then .tuple #[.string (strOf (sub zs (a.toNat + k) (wrap64 x).toNat)), .int .i64 (a + k + wrap64 x), .bool true] else gtNo
  | _ => gtNo
theorem gtV_neg {zs : List Int} {a : Int} (h : a < 0) : gtV zs a = gtNo := by unfold gtV; rw [if_pos h]
theorem gtV_good {zs : List Int} {at' : Nat} {x : Int} {k : Nat} (e : rdN zs at' = .good x k) (h : 0 ≤ wrap64 x ∧ wrap64 x ≤ (zs.length : Int) - ((at' : Int) + k)) : gtV zs (at' : Int) = .tuple #[.string (strOf (sub zs (at' + k) (wrap64 x).toNat)), .int .i64 ((at' : Int) + k + wrap64 x), .bool true] := by
  unfold gtV; rw [if_neg (by omega), Int.toNat_natCast, e]; simp only; rw [if_pos h]
theorem gtV_far {zs : List Int} {at' : Nat} {x : Int} {k : Nat} (e : rdN zs at' = .good x k) (h : ¬ (0 ≤ wrap64 x ∧ wrap64 x ≤ (zs.length : Int) - ((at' : Int) + k))) : gtV zs (at' : Int) = gtNo := by
  unfold gtV; rw [if_neg (by omega), Int.toNat_natCast, e]; simp only; rw [if_neg h]
theorem gtV_torn {zs : List Int} {at' : Nat} (e : rdN zs at' = .torn) : gtV zs (at' : Int) = gtNo := by
  unfold gtV; rw [if_neg (by omega), Int.toNat_natCast, e]
theorem gtV_bad {zs : List Int} {at' : Nat} (e : rdN zs at' = .bad) : gtV zs (at' : Int) = gtNo := by
  unfold gtV; rw [if_neg (by omega), Int.toNat_natCast, e]

/-- How a reading of a text out of a reader ends. -/
def TxtEnd (w : World) (R : Nat) (a : Option Addr) (n cap : Nat) (zs : List Int) (at' : Nat) (e : Ending) (w' : World) : Prop :=
  ((∃ s j, gtV zs (at' : Int) = .tuple #[.string s, .int .i64 ((j : Nat) : Int), .bool true] ∧ e = .returned (.string s) ∧ Rdr w' R a n cap zs j) ∨ (∃ f : Int, gtV zs (at' : Int) = gtNo ∧ f ≠ 0 ∧ e = .panicked [{ v := .iface 80 (.int .i64 f), recovered := false }])) ∧ w.grownBy w' (some R)

set_option maxHeartbeats 4000000 in
theorem text_any (R : Nat) (a : Option Addr) (n cap at' : Nat) (zs : List Int) (w : World) (h : Rdr w R a n cap zs at') (ho : Oct zs) :
    Calls Try.prog 46 #[.pointer (some ⟨R, 0, none⟩)] w fun e w' => TxtEnd w R a n cap zs at' e w' := by
  have HR := hid' h
  have HO := hid' ho
  obtain ⟨hfe, hfe2⟩ := h.few
  have hnc := h.ncap
  have hlen := h.len
  have HRl := hid' h.lt
  clear h ho
  go_enter Try.func46, Try.ntmps46
  go_wp2_with fail
  refine (count_any 9223372036854775807 R a n cap at' zs w HR.out HO.out).mono ?_
  rintro e w1 ⟨⟨x, k, hg, h0, h1, rfl, hrd⟩ | ⟨hg, rfl⟩ | ⟨hg, rfl⟩, hgr⟩
  · obtain ⟨c, hc⟩ := Int.eq_ofNat_of_zero_le h0
    have HG := hid' hg
    have HC := hid' hc
    have HRD := hid' hrd
    have HGR := hid' hgr
    have hle := hrd.le
    rw [hc] at h1 ⊢
    clear hg hrd hgr hc h0
    by_cases hin : at' + k + c ≤ n
    · have HV : Hid (gtV zs (at' : Int) = .tuple #[.string (strOf (sub zs (at' + k) c)), .int .i64 ((at' + k + c : Nat) : Int), .bool true]) := by
        have := gtV_good HG.out (by rw [HC.out]; omega)
        rw [HC.out] at this
        unfold Hid; rw [this, Int.toNat_natCast]
        congr 3
      go_wp2_with fail
      refine (take_ok R a n cap (at' + k) zs c w1 HRD.out hin).mono ?_
      rintro e w2 ⟨a1, c1, rfl, hc1, hc2, hcut, hrd1, hg1⟩
      have hcv := conv_str w2 a1 c c1 (sub zs (at' + k) c) (sub_len (by omega)).symm (hcut.byt (Nat.le_of_lt hrd1.lt) (by omega))
      have HRD1 := hid' hrd1
      have HG1 := hid' (HGR.out.trans hg1)
      clear hcut hrd1 hg1 hc1 hc2
      go_wp2_with fail
      go_ret
      exact ⟨Or.inl ⟨_, _, HV.out, rfl, HRD1.out⟩, HG1.out⟩
    · have HV : Hid (gtV zs (at' : Int) = gtNo) := gtV_far HG.out (by rw [HC.out]; omega)
      go_wp2_with fail
      refine (take_torn R a n cap (at' + k) zs c w1 HRD.out (by omega) (by omega)).mono ?_
      rintro e w2 ⟨rfl, hg1⟩
      have HG1 := hid' (HGR.out.trans hg1)
      clear hg1
      go_wp2_with fail
      exact ⟨rfl, Or.inr ⟨2, HV.out, by omega, rfl⟩, HG1.out⟩
  · have HV := hid' (gtV_torn hg)
    have HGR := hid' hgr
    clear hg hgr
    go_wp2_with fail
    exact ⟨rfl, Or.inr ⟨2, HV.out, by omega, rfl⟩, HGR.out⟩
  · have HV : Hid (gtV zs (at' : Int) = gtNo) := by
      rcases hg with hg | ⟨x, k, hg, hno⟩
      · exact gtV_bad hg
      · exact gtV_far hg (fun hh => hno ⟨hh.1, by have := rdN_le hg; omega⟩)
    have HGR := hid' hgr
    clear hg hgr
    go_wp2_with fail
    exact ⟨rfl, Or.inr ⟨3, HV.out, by omega, rfl⟩, HGR.out⟩

end Go.Proofs.Ytdcbmeiopfdkeaa
