/-
  Where a session stands: the specification's l7Find, the program's session, and what a session says of a number.
-/
import Derived.Test.YtjenbmiiikeenaaX7Aux
namespace Go.Proofs.Ytjenbmiiikeenaa
open Go.RowKit

theorem findS_some {ls : List Ss} {id : Int} {k : Nat} {q : Ss} (h : ls[k]? = some q) (he : q.i = id) (hn : ∀ j r, j < k → ls[j]? = some r → r.i ≠ id) : findS id ls = some k := by
  unfold findS
  rw [List.findIdx?_eq_some_iff_getElem]
  obtain ⟨hk, rfl⟩ := List.getElem?_eq_some_iff.1 h
  refine ⟨hk, by simp [he], fun j hj => ?_⟩
  have := hn j _ hj (List.getElem?_eq_getElem (by omega))
  simp [this]
theorem findS_none {ls : List Ss} {id : Int} (hn : ∀ (j : Nat) (r : Ss), ls[j]? = some r → r.i ≠ id) : findS id ls = none := by
  unfold findS
  rw [List.findIdx?_eq_none_iff]
  intro q hq
  obtain ⟨j, hj⟩ := List.getElem?_of_mem hq
  simp [hn j q hj]
theorem findS_at {ls : List Ss} {id : Int} {k : Nat} (h : findS id ls = some k) : ∃ q, ls[k]? = some q ∧ q.i = id ∧ k < ls.length ∧ ∀ j r, j < k → ls[j]? = some r → r.i ≠ id := by
  unfold findS at h
  rw [List.findIdx?_eq_some_iff_getElem] at h
  obtain ⟨hk, h1, h2⟩ := h
  refine ⟨ls[k], List.getElem?_eq_getElem hk, by simpa using h1, hk, fun j r hj hr he => ?_⟩
  obtain ⟨hj2, rfl⟩ := List.getElem?_eq_some_iff.1 hr
  have := h2 j hj
  simp [he] at this
theorem findS_no {ls : List Ss} {id : Int} (h : findS id ls = none) : ∀ (j : Nat) (r : Ss), ls[j]? = some r → r.i ≠ id := by
  unfold findS at h
  rw [List.findIdx?_eq_none_iff] at h
  intro j r hr he
  have := h r (List.mem_of_getElem? hr)
  simp [he] at this
/-- The place, or -1. -/
def fxS (id : Int) (ls : List Ss) : Int := match findS id ls with | some k => k | none => -1
theorem fxS_some {ls : List Ss} {id : Int} {k : Nat} (h : findS id ls = some k) : fxS id ls = k := by unfold fxS; rw [h]
theorem fxS_none {ls : List Ss} {id : Int} (h : findS id ls = none) : fxS id ls = -1 := by unfold fxS; rw [h]
/-- What a session whose last number is l says of s. -/
def askN (l s : Int) : Int := if s = l + 1 then 0 else if s = l ∧ 0 < s then 1 else if s ≤ l then 2 else 3
def askT (q : Ss) (s : Int) : ByteArray := if askN q.l s = 1 then q.t else ⟨#[]⟩
theorem sesF_mem {N p : Int} {ls : List Ss} (h : sesF N p ls = true) : ∀ q ∈ ls, okSs q = true ∧ q.i < N ∧ p < q.i := by
  induction ls generalizing p with
  | nil => intro q hq; cases hq
  | cons x t ih =>
    simp only [sesF, Bool.and_eq_true, decide_eq_true_eq] at h
    obtain ⟨⟨⟨h1, h2⟩, h3⟩, h4⟩ := h
    intro q hq
    rcases List.mem_cons.1 hq with rfl | hq
    · exact ⟨h3, h2, h1⟩
    · obtain ⟨a, b, c⟩ := ih h4 q hq
      exact ⟨a, b, by omega⟩
theorem ok_parts {q : Ss} (h : okSs q = true) : 0 ≤ q.l ∧ q.l ≤ 1000000 ∧ (q.t.size : Int) ≤ 200 ∧ 0 ≤ q.u ∧ q.u ≤ 1000000000 := by
  unfold okSs tmB at h
  simp only [Bool.and_eq_true, decide_eq_true_eq] at h
  exact ⟨h.1.1.1, h.1.1.2, h.1.2.1, h.2.1, h.2.2⟩

set_option maxRecDepth 10000 in
set_option maxHeartbeats 2000000 in
theorem l7Find_any (a : Option Addr) (n c : Nat) (N : Int) (ls : List Ss) (w : World) (hn : n = ls.length) (hB : RowG KSs w a ls) (hl : n ≤ 1048576) (id : Int) :
    Calls Try.prog 32 #[.agg #[.slice a n c, .int .i64 N], .int .i64 id] w fun e w' => e = .returned (.int .i64 (fxS id ls)) ∧ Below w.heap.size w w' := by
  have HB := hidP (fun W h => hB.later (w' := W) h)
  have HN := hidP hn
  clear hB hn
  go_enter Try.func32, Try.ntmps32
  go_wp2_with fail
  obtain ⟨b0, b1⟩ := box2D w 26 (.slice a n c) (.int .i64 N)
  have bB := alloc_below w (.cells #[.slice a n c, .int .i64 N] 26)
  have bL := alloc_lt w (.cells #[.slice a n c, .int .i64 N] 26)
  have bS : (w.alloc (.cells #[.slice a n c, .int .i64 N] 26)).heap.size = w.heap.size + 1 := by simp
  generalize w.alloc (.cells #[.slice a n c, .int .i64 N] 26) = W1 at *
  have HR := hidP (HB.out _ bB)
  have HU := hidP bB
  clear bB HB bS
  go_loopw [5] (fun t5 wr => ∃ k : Nat, k ≤ n ∧ t5 = .int .i64 k ∧ (∀ j r, j < k → ls[j]? = some r → r.i ≠ id) ∧ wr = W1) (fun t5 _ => n - (intOf t5).toNat)
  case atStart => exact ⟨0, Nat.zero_le _, rfl, fun j r hj => absurd hj (Nat.not_lt_zero j), rfl⟩
  case round =>
    obtain ⟨k, hk, rfl, hno, rfl⟩ := hrel
    have HNo := hidP hno
    clear hno
    by_cases hlt : k < n
    · obtain ⟨p, o, q, rfl, hp, hq, c0, c1, c2, c3⟩ := rowSs HR.out k (by rw [← HN.out]; exact hlt)
      have HQ := hidP hq
      clear hq c1 c2 c3
      cases he : (q.i == id)
      · have HE := hidP he
        go_wp2_with fail
        go_roundw
        case rel => exact ⟨k + 1, by omega, by go_num, fun j r hj hr e => by
          rcases Nat.lt_or_ge j k with h | h
          · exact HNo.out j r h hr e
          · have : j = k := by omega
            subst this
            rw [HQ.out] at hr; cases hr
            have := HE.out; simp [e] at this, by simp⟩
        case measure => simp [intOf]; omega
      · have HF := hidP (findS_some HQ.out (by simpa using he) HNo.out)
        go_wp2_with fail
        go_ret
        exact ⟨ret_i (fxS_some HF.out).symm, HU.out⟩
    · have HF : Hid (findS id ls = none) := hidP (findS_none fun j r hr => HNo.out j r (by
        have := (List.getElem?_eq_some_iff.1 hr).1
        have := HN.out; omega) hr)
      go_wp2_with fail
      go_ret
      exact ⟨ret_i (fxS_none HF.out).symm, HU.out⟩

set_option maxRecDepth 10000 in
set_option maxHeartbeats 2000000 in
theorem session_form (b : Nat) (a : Option Addr) (n c : Nat) (N : Int) (ls : List Ss) (w : World) (hn : n = ls.length) (hB : RowG KSs w a ls) (hl : n ≤ 1048576) (b0 : w.cell? ⟨b, 0, none⟩ = some (.slice a n c)) (b1 : w.cell? ⟨b, 1, none⟩ = some (.int .i64 N)) (id : Int) (hr : dkB ls N = false) :
    Calls Try.prog 26 #[.pointer (some ⟨b, 0, none⟩), .int .i64 id] w fun e w' => e = .returned (.pointer none) ∧ Below w.heap.size w w' := by
  have HI := hidP (iDeskOk_any a n c N ls w hn hB hl)
  rw [hr] at HI
  clear hB hn hr
  go_enter Try.func26, Try.ntmps26
  go_wp2_with fail
  refine HI.out.mono ?_
  rintro e w2 ⟨rfl, hb2⟩
  have HB2 := hidP hb2
  clear hb2
  go_wp2_with fail
  go_ret
  exact ⟨rfl, HB2.out⟩

set_option maxRecDepth 10000 in
set_option maxHeartbeats 2000000 in
theorem session_none (b : Nat) (a : Option Addr) (n c : Nat) (N : Int) (ls : List Ss) (w : World) (hn : n = ls.length) (hB : RowG KSs w a ls) (hl : n ≤ 1048576) (bL : b < w.heap.size) (b0 : w.cell? ⟨b, 0, none⟩ = some (.slice a n c)) (b1 : w.cell? ⟨b, 1, none⟩ = some (.int .i64 N)) (id : Int) (hr : dkB ls N = true) (hf : findS id ls = none) :
    Calls Try.prog 26 #[.pointer (some ⟨b, 0, none⟩), .int .i64 id] w fun e w' => e = .returned (.pointer none) ∧ Below w.heap.size w w' := by
  have HI := hidP (iDeskOk_any a n c N ls w hn hB hl)
  rw [hr] at HI
  have HN := hidP hn
  have HF := hidP hf
  have HB := hidP (fun W h => hB.later (w' := W) h)
  clear hB hn hr hf
  go_enter Try.func26, Try.ntmps26
  go_wp2_with fail
  refine HI.out.mono ?_
  rintro e w2 ⟨rfl, hb2⟩
  have B0 := (hb2.cell bL).trans b0
  have B1 := (hb2.cell bL).trans b1
  have HR := hidP (HB.out _ hb2)
  have HB2 := hidP hb2
  clear hb2 HB b0 b1
  go_wp2_with fail
  go_loopw [5, 16] (fun _ t16 wr => ∃ k : Nat, k ≤ n ∧ t16 = .int .i64 k ∧ (∀ j r, j < k → ls[j]? = some r → r.i ≠ id) ∧ wr = w2) (fun _ t16 _ => n - (intOf t16).toNat)
  case atStart => exact ⟨0, Nat.zero_le _, rfl, fun j r hj => absurd hj (Nat.not_lt_zero j), rfl⟩
  case round =>
    obtain ⟨k, hk, rfl, hno, rfl⟩ := hrel
    have HNo := hidP hno
    clear hno
    by_cases hlt : k < n
    · obtain ⟨p, o, q, rfl, hp, hq, c0, c1, c2, c3⟩ := rowSs HR.out k (by rw [← HN.out]; exact hlt)
      have HQ := hidP hq
      clear hq c1 c2 c3
      cases he : (q.i == id)
      · have HE := hidP he
        go_wp2_with fail
        go_roundw
        case rel => exact ⟨k + 1, by omega, by go_num, fun j r hj hr e => by
          rcases Nat.lt_or_ge j k with h | h
          · exact HNo.out j r h hr e
          · have : j = k := by omega
            subst this
            rw [HQ.out] at hr; cases hr
            have := HE.out; simp [e] at this, by simp⟩
        case measure => simp [intOf]; omega
      · have HK := hidP (findS_some HQ.out (by simpa using he) HNo.out)
        exact absurd (HF.out.symm.trans HK.out) (by simp)
    · go_wp2_with fail
      go_ret
      exact ⟨rfl, HB2.out⟩

set_option maxRecDepth 10000 in
set_option maxHeartbeats 2000000 in
theorem session_some (b : Nat) (a : Option Addr) (n c : Nat) (N : Int) (ls : List Ss) (w : World) (hn : n = ls.length) (hB : RowG KSs w a ls) (hl : n ≤ 1048576) (bL : b < w.heap.size) (b0 : w.cell? ⟨b, 0, none⟩ = some (.slice a n c)) (b1 : w.cell? ⟨b, 1, none⟩ = some (.int .i64 N)) (id : Int) (hr : dkB ls N = true) (I : Nat) (hf : findS id ls = some I) :
    Calls Try.prog 26 #[.pointer (some ⟨b, 0, none⟩), .int .i64 id] w fun e w' => ∃ p o, a = some ⟨p, o, none⟩ ∧ e = .returned (.pointer (some ⟨p, o + I * 4, none⟩)) ∧ Below w.heap.size w w' := by
  have HI := hidP (iDeskOk_any a n c N ls w hn hB hl)
  rw [hr] at HI
  have HN := hidP hn
  have HF := hidP hf
  have HB := hidP (fun W h => hB.later (w' := W) h)
  clear hB hn hr hf
  go_enter Try.func26, Try.ntmps26
  go_wp2_with fail
  refine HI.out.mono ?_
  rintro e w2 ⟨rfl, hb2⟩
  have B0 := (hb2.cell bL).trans b0
  have B1 := (hb2.cell bL).trans b1
  have HR := hidP (HB.out _ hb2)
  have HB2 := hidP hb2
  clear hb2 HB b0 b1
  go_wp2_with fail
  go_loopw [5, 16] (fun _ t16 wr => ∃ k : Nat, k ≤ n ∧ t16 = .int .i64 k ∧ (∀ j r, j < k → ls[j]? = some r → r.i ≠ id) ∧ wr = w2) (fun _ t16 _ => n - (intOf t16).toNat)
  case atStart => exact ⟨0, Nat.zero_le _, rfl, fun j r hj => absurd hj (Nat.not_lt_zero j), rfl⟩
  case round =>
    obtain ⟨k, hk, rfl, hno, rfl⟩ := hrel
    have HNo := hidP hno
    clear hno
    by_cases hlt : k < n
    · obtain ⟨p, o, q, rfl, hp, hq, c0, c1, c2, c3⟩ := rowSs HR.out k (by rw [← HN.out]; exact hlt)
      have HQ := hidP hq
      clear hq c1 c2 c3
      cases he : (q.i == id)
      · have HE := hidP he
        go_wp2_with fail
        go_roundw
        case rel => exact ⟨k + 1, by omega, by go_num, fun j r hj hr e => by
          rcases Nat.lt_or_ge j k with h | h
          · exact HNo.out j r h hr e
          · have : j = k := by omega
            subst this
            rw [HQ.out] at hr; cases hr
            have := HE.out; simp [e] at this, by simp⟩
        case measure => simp [intOf]; omega
      · have HK := hidP (findS_some HQ.out (by simpa using he) HNo.out)
        go_wp2_with fail
        go_ret
        have hkI : k = I := by have h1 := HF.out; rw [HK.out] at h1; cases h1; rfl
        subst hkI
        exact ⟨p, o, rfl, rfl, HB2.out⟩
    · exfalso
      obtain ⟨q, hq, he, hI, _⟩ := findS_at HF.out
      exact HNo.out I q (by have := HN.out; omega) hq he

theorem ask_cases (l s : Int) (P : Prop) (hA : (s == l + 1) = true → askN l s = 0 → P) (hB : (s == l + 1) = false → (s == l) = true → decide (0 < s) = true → askN l s = 1 → P) (hC : (s == l + 1) = false → (s == l) = true → decide (0 < s) = false → decide (s ≤ l) = true → askN l s = 2 → P) (hD : (s == l + 1) = false → (s == l) = false → decide (s ≤ l) = true → askN l s = 2 → P) (hE : (s == l + 1) = false → (s == l) = false → decide (s ≤ l) = false → askN l s = 3 → P) : P := by
  unfold askN at *
  by_cases h1 : s = l + 1
  · exact hA (by simpa using h1) (by rw [if_pos h1])
  · have h1' : (s == l + 1) = false := by simpa using h1
    by_cases h2 : s = l
    · by_cases h3 : 0 < s
      · exact hB h1' (by simpa using h2) (by simpa using h3) (by rw [if_neg h1, if_pos ⟨h2, h3⟩])
      · exact hC h1' (by simpa using h2) (by simpa using h3) (by simp; omega) (by rw [if_neg h1, if_neg (fun h => h3 h.2), if_pos (by omega)])
    · by_cases h4 : s ≤ l
      · exact hD h1' (by simpa using h2) (by simpa using h4) (by rw [if_neg h1, if_neg (fun h => h2 h.1), if_pos h4])
      · exact hE h1' (by simpa using h2) (by simpa using h4) (by rw [if_neg h1, if_neg (fun h => h2 h.1), if_neg h4])
theorem ret_is {a b : Int} {s t : ByteArray} (h : a = b) (h2 : s = t) : Ending.returned (.tuple #[.int .i64 a, .string s]) = .returned (.tuple #[.int .i64 b, .string t]) := by rw [h, h2]
set_option maxRecDepth 10000 in
set_option maxHeartbeats 2000000 in
theorem sesAsk_any (p o : Nat) (q : Ss) (s : Int) (w : World) (h0 : 0 ≤ q.l) (h1 : q.l ≤ 1000000) (c1 : w.cell? ⟨p, o + 1, none⟩ = some (.int .i64 q.l)) (c2 : w.cell? ⟨p, o + 2, none⟩ = some (.string q.t)) :
    Calls Try.prog 34 #[.pointer (some ⟨p, o, none⟩), .int .i64 s] w fun e w' => e = .returned (.tuple #[.int .i64 (askN q.l s), .string (askT q s)]) ∧ Below w.heap.size w w' := by
  have hw : IntKind.i64.wrap (q.l + 1) = q.l + 1 := by rw [IntKind.wrap_i64]; omega
  refine ask_cases q.l s _ ?_ ?_ ?_ ?_ ?_
  · intro g1 hv
    have HV : Hid (askN q.l s = 0 ∧ askT q s = ⟨#[]⟩) := hidP ⟨hv, by unfold askT; rw [hv]; rw [if_neg (by decide)]⟩
    clear hv
    go_enter Try.func34, Try.ntmps34
    go_wp2_with fail
    refine bodyPost_ret (v := .tuple #[.int .i64 0, .string ⟨#[]⟩]) (by simp [results, Try.results34, go_sem]) rfl ⟨ret_is HV.out.1.symm HV.out.2.symm, ?_⟩
    exact Below.refl _ _
  · intro g1 g2 g3 hv
    have HV : Hid (askN q.l s = 1 ∧ askT q s = q.t) := hidP ⟨hv, by unfold askT; rw [hv]; rw [if_pos rfl]⟩
    clear hv
    go_enter Try.func34, Try.ntmps34
    go_wp2_with fail
    go_region
    all_goals go_wp2_with fail
    refine bodyPost_ret (v := .tuple #[.int .i64 1, .string q.t]) (by simp [results, Try.results34, go_sem]) rfl ⟨ret_is HV.out.1.symm HV.out.2.symm, ?_⟩
    exact (Below.refl _ _).drew
  · intro g1 g2 g3 g4 hv
    have HV : Hid (askN q.l s = 2 ∧ askT q s = ⟨#[]⟩) := hidP ⟨hv, by unfold askT; rw [hv]; rw [if_neg (by decide)]⟩
    clear hv
    go_enter Try.func34, Try.ntmps34
    go_wp2_with fail
    refine bodyPost_ret (v := .tuple #[.int .i64 2, .string ⟨#[]⟩]) (by simp [results, Try.results34, go_sem]) rfl ⟨ret_is HV.out.1.symm HV.out.2.symm, ?_⟩
    exact Below.refl _ _
  · intro g1 g2 g3 hv
    have HV : Hid (askN q.l s = 2 ∧ askT q s = ⟨#[]⟩) := hidP ⟨hv, by unfold askT; rw [hv]; rw [if_neg (by decide)]⟩
    clear hv
    go_enter Try.func34, Try.ntmps34
    go_wp2_with fail
    refine bodyPost_ret (v := .tuple #[.int .i64 2, .string ⟨#[]⟩]) (by simp [results, Try.results34, go_sem]) rfl ⟨ret_is HV.out.1.symm HV.out.2.symm, ?_⟩
    exact Below.refl _ _
  · intro g1 g2 g3 hv
    have HV : Hid (askN q.l s = 3 ∧ askT q s = ⟨#[]⟩) := hidP ⟨hv, by unfold askT; rw [hv]; rw [if_neg (by decide)]⟩
    clear hv
    go_enter Try.func34, Try.ntmps34
    go_wp2_with fail
    refine bodyPost_ret (v := .tuple #[.int .i64 3, .string ⟨#[]⟩]) (by simp [results, Try.results34, go_sem]) rfl ⟨ret_is HV.out.1.symm HV.out.2.symm, ?_⟩
    exact Below.refl _ _

end Go.Proofs.Ytjenbmiiikeenaa
