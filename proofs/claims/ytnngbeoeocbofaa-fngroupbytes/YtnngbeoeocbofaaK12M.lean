/-
  Plain: rows of right Ids, all of them; what the members of two such rows are, and how many; the program's Members.
-/
import Derived.Test.YtnngbeoeocbofaaV12M
import Derived.Test.YtnngbeoeocbofaaK12G
namespace Go.Proofs.Ytnngbeoeocbofaa
open Go.RowKit Go.Maps Go.Sort Go.Shelf

/-- All rows of right Ids above l (f: how many may come). -/
def gen : Nat → Int → List (List Int)
  | 0, _ => [[]]
  | f + 1, l => gen f (l + 1) ++ (gen f (l + 1)).map (fun t => (l + 1) :: t)
theorem in_gen : ∀ (f : Nat) (l : Int) (L : List Int), l + f = 7 → idsB l L = true → L ∈ gen f l
  | 0, l, [], _, _ => by simp [gen]
  | 0, l, q :: t, hf, h => by
      exfalso
      unfold idsB at h
      simp only [Bool.and_eq_true, decide_eq_true_eq] at h
      omega
  | f + 1, l, [], hf, _ => by
      unfold gen
      exact List.mem_append.2 (Or.inl (in_gen f (l + 1) [] (by omega) rfl))
  | f + 1, l, q :: t, hf, h => by
      unfold gen
      have h' := h
      unfold idsB at h'
      simp only [Bool.and_eq_true, decide_eq_true_eq] at h'
      by_cases hq : q = l + 1
      · subst hq
        exact List.mem_append.2 (Or.inr (List.mem_map.2 ⟨t, in_gen f (l + 1) t (by omega) h'.2, rfl⟩))
      · refine List.mem_append.2 (Or.inl (in_gen f (l + 1) (q :: t) (by omega) ?_))
        unfold idsB
        simp only [Bool.and_eq_true, decide_eq_true_eq]
        exact ⟨⟨by omega, h'.1.2⟩, h'.2⟩
/-- Whether a number is in a row, as a number. -/
def isIn (L : List Int) (q : Int) : Nat := if q ∈ L then 1 else 0
def cntI (L : List Int) : Nat := isIn L 1 + isIn L 2 + isIn L 3 + isIn L 4 + isIn L 5 + isIn L 6 + isIn L 7
def factsB (L : List Int) : Bool := decide (L.length = cntI L) && (decide (ofB 8 (byI 0 L).toNat 1 = L) && (decide (0 ≤ byI 0 L) && (decide (byI 0 L < 128) && (decide (L.length ≤ 7) && (decide (L.length = 0) || decide (0 < byI 0 L))))))
theorem facts_all : (gen 7 0).all factsB = true := by kernel_rfl
theorem facts_of {L : List Int} (h : idsB 0 L = true) : L.length = cntI L ∧ ofB 8 (byI 0 L).toNat 1 = L ∧ 0 ≤ byI 0 L ∧ byI 0 L < 128 ∧ L.length ≤ 7 ∧ (L.length = 0 ∨ 0 < byI 0 L) := by
  have := (List.all_eq_true.1 facts_all) L (in_gen 7 0 L (by omega) h)
  unfold factsB at this
  simp only [Bool.and_eq_true, Bool.or_eq_true, decide_eq_true_eq] at this
  exact this
theorem cnt_union {M A B : List Int} (h : ∀ x, x ∈ M ↔ x ∈ A ∨ x ∈ B) : cntI A ≤ cntI M ∧ cntI B ≤ cntI M ∧ cntI M ≤ cntI A + cntI B := by
  have one : ∀ q, isIn A q ≤ isIn M q ∧ isIn B q ≤ isIn M q ∧ isIn M q ≤ isIn A q + isIn B q := fun q => by
    unfold isIn
    by_cases ha : q ∈ A
    · rw [if_pos ha, if_pos ((h q).2 (Or.inl ha))]
      by_cases hb : q ∈ B
      · rw [if_pos hb]; omega
      · rw [if_neg hb]; omega
    · rw [if_neg ha]
      by_cases hb : q ∈ B
      · rw [if_pos hb, if_pos ((h q).2 (Or.inr hb))]; omega
      · rw [if_neg hb, if_neg (fun hm => by rcases (h q).1 hm with h1 | h1; exact ha h1; exact hb h1)]; omega
  have h1 := one 1; have h2 := one 2; have h3 := one 3; have h4 := one 4; have h5 := one 5; have h6 := one 6; have h7 := one 7
  unfold cntI
  omega
theorem ids_of_lt : ∀ (M : List Int) (l : Int), (∀ x ∈ M, l < x ∧ x ≤ 7) → M.Pairwise (fun x y => x < y) → idsB l M = true
  | [], _, _, _ => rfl
  | q :: t, l, h, hp => by
      obtain ⟨h1, h2⟩ := h q List.mem_cons_self
      rw [List.pairwise_cons] at hp
      unfold idsB
      rw [decide_eq_true h1, decide_eq_true h2, ids_of_lt t q (fun x hx => ⟨hp.1 x hx, (h x (List.mem_cons_of_mem _ hx)).2⟩) hp.2]
      rfl
theorem srtI_perm (ss : List Int) : (srtI ss).Perm ss := List.mergeSort_perm ss _
theorem srtI_sorted (ss : List Int) : (srtI ss).Pairwise (fun x y => x ≤ y) := by
  have tr : ∀ a b c : Int, decide (a ≤ b) = true → decide (b ≤ c) = true → decide (a ≤ c) = true := fun a b c h1 h2 => by simp only [decide_eq_true_eq] at *; exact Int.le_trans h1 h2
  have tt9 : ∀ a b : Int, (decide (a ≤ b) || decide (b ≤ a)) = true := fun a b => by simp only [Bool.or_eq_true, decide_eq_true_eq]; exact Int.le_total a b
  exact (List.pairwise_mergeSort tr tt9 ss).imp (fun {a b} h => by simpa using h)
theorem keys_mem {w : World} {b n : Nat} {D : DataW Unit} (hown : w.ownsMap Try.prog 3 unitElem b n D) : (intKeys D).Nodup ∧ ∀ x, x ∈ intKeys D ↔ Maps.has D (.int .i64 x) = true := by
  obtain ⟨es, hD, hpw, _⟩ := hown.entries Try.keyI
  obtain ⟨es', hD', hko⟩ := hown.keysOf
  obtain rfl : es = es' := by rw [hD] at hD'; simpa using hD'
  subst hD
  have hk : ∀ p ∈ es, ∃ x, p.1 = .int .i64 x := fun p hp => by obtain ⟨v, hv⟩ := hko p hp; obtain ⟨x, _, hx, _⟩ := Maps.keyOf_i64 Try.underlying3 hv; exact ⟨x, hx⟩
  constructor
  · show (es.map fun p => Go.intOf p.1).Nodup
    refine List.pairwise_map.2 (hpw.imp_of_mem fun {p q} hp' hq' hne e => hne ?_)
    obtain ⟨a, ha⟩ := hk p hp'
    obtain ⟨c, hc⟩ := hk q hq'
    rw [ha, hc] at e ⊢
    exact congrArg _ e
  · intro x
    rw [has_eq, List.any_eq_true]
    show x ∈ es.map (fun p => Go.intOf p.1) ↔ _
    rw [List.mem_map]
    constructor
    · rintro ⟨p, hp', rfl⟩
      obtain ⟨a, ha⟩ := hk p hp'
      exact ⟨p, hp', by rw [ha]; simp [Lit.sameKey, Go.intOf]⟩
    · rintro ⟨p, hp', hs⟩
      obtain ⟨a, ha⟩ := hk p hp'
      rw [ha] at hs
      exact ⟨p, hp', by rw [ha]; simpa [Lit.sameKey, Go.intOf] using hs⟩
theorem gflat_I : ∀ zs : List Int, gflat KI zs = zs.map encZ
  | [] => rfl
  | z :: t => by show [Value.int .i64 z] ++ gflat KI t = _; rw [gflat_I t]; rfl

set_option maxRecDepth 10000 in
set_option maxHeartbeats 2000000 in
theorem members_any (a1 : Option Addr) (n1 c1 : Nat) (a2 : Option Addr) (n2 c2 : Nat) (ps bs : List Int) (w : World) (hn1 : n1 = ps.length) (hn2 : n2 = bs.length) (hP : RowG KI w a1 ps) (hK : RowG KI w a2 bs) (hl1 : n1 ≤ 100) (hl2 : n2 ≤ 100) (hi1 : idsB 0 ps = true) (hi2 : idsB 0 bs = true) :
    Calls Try.prog 15 #[.agg #[.slice a1 n1 c1, .slice a2 n2 c2]] w fun e w' => ∃ (a : Option Addr) (n c : Nat) (M : List Int), e = .returned (.slice a n c) ∧ n = M.length ∧ idsB 0 M = true ∧ n1 ≤ n ∧ n2 ≤ n ∧ n ≤ n1 + n2 ∧ OwnG KI 3 w' w.heap.size (.slice a n c) M ∧ Below w.heap.size w w' := by
  have hq1 := ids_in ps 0 (Int.le_refl _) hi1
  have hq2 := ids_in bs 0 (Int.le_refl _) hi2
  have HR := hidP (And.intro hP hK)
  have HN := hidP (And.intro hn1 hn2)
  have HI := hidP (And.intro hi1 hi2)
  have HQ := hidP (And.intro hq1 hq2)
  clear hP hK hn1 hn2 hi1 hi2 hq1 hq2
  go_enter Try.func15, Try.ntmps15
  go_wp2_with fail
  have b2 : Below w.heap.size w ((w.alloc (.cells #[.slice a1 n1 c1, .slice a2 n2 c2] 26)).alloc (.cells #[.slice a1 n1 c1, .slice a2 n2 c2] 24)) := (alloc_below w _).alloc (by simp) _
  have q0 : ((w.alloc (.cells #[.slice a1 n1 c1, .slice a2 n2 c2] 26)).alloc (.cells #[.slice a1 n1 c1, .slice a2 n2 c2] 24)).cell? ⟨w.heap.size + 1, 0, none⟩ = some (.slice a1 n1 c1) := by simp [go_sem]
  have q1 : ((w.alloc (.cells #[.slice a1 n1 c1, .slice a2 n2 c2] 26)).alloc (.cells #[.slice a1 n1 c1, .slice a2 n2 c2] 24)).cell? ⟨w.heap.size + 1, 1, none⟩ = some (.slice a2 n2 c2) := by simp [go_sem]
  generalize (w.alloc (.cells #[.slice a1 n1 c1, .slice a2 n2 c2] 26)).alloc (.cells #[.slice a1 n1 c1, .slice a2 n2 c2] 24) = W2 at *
  refine (setOf_any (w.heap.size + 1) n1 c1 n2 c2 a1 a2 ps bs W2 q0 q1 HN.out.1 HN.out.2 hl1 hl2 (HR.out.1.later b2) (HR.out.2.later b2) HQ.out.1 HQ.out.2).mono ?_
  rintro e w3 ⟨rfl, ⟨D, hm3, hs3⟩, hb3⟩
  have HM := hidP (And.intro hm3 (And.intro hs3 (b2.trans (hb3.mono b2.size))))
  clear hm3 hs3 hb3 b2 q0 q1
  go_wp2_with fail
  refine (rising_any W2.heap.size (n1 + n2) D unitElem w3 HM.out.1 (by omega)).mono ?_
  rintro e w4 ⟨v, ss, rfl, hperm, hrow, hb4⟩
  have HF := hidP (And.intro hperm (And.intro hrow hb4))
  clear hperm hrow hb4
  go_wp2_with fail
  go_ret
  obtain ⟨hperm, hrow, hb4⟩ := HF.out
  obtain ⟨hnd, hmem⟩ := keys_mem HM.out.1
  have hlen : ss.length = (srtI ss).length := (srtI_perm ss).length_eq.symm
  have hown : OwnG KI 3 w4 w.heap.size v (srtI ss) := by
    refine OwnG.mono (B := w3.heap.size) ?_ HM.out.2.2.size
    unfold OwnG
    rw [gflat_I, ← hlen]
    exact hrow
  obtain ⟨a, c, rfl⟩ := hown.form
  have hm : ∀ x, x ∈ srtI ss ↔ x ∈ ps ∨ x ∈ bs := fun x => by
    rw [(srtI_perm ss).mem_iff, hperm.mem_iff, hmem x, HM.out.2.1 x, decide_eq_true_eq, List.mem_append]
  have hnd2 : (srtI ss).Nodup := ((srtI_perm ss).nodup_iff).2 (hperm.nodup_iff.2 hnd)
  have hlt : (srtI ss).Pairwise (fun x y => x < y) := (List.Pairwise.and (srtI_sorted ss) hnd2).imp (fun {x y} h => by have := h.1; have := h.2; omega)
  have hids : idsB 0 (srtI ss) = true := ids_of_lt _ 0 (fun x hx => by
    rcases (hm x).1 hx with h | h
    · have := HQ.out.1 x h; omega
    · have := HQ.out.2 x h; omega) hlt
  have cM := (facts_of hids).1
  have cA := (facts_of HI.out.1).1
  have cB := (facts_of HI.out.2).1
  have cu := cnt_union hm
  have e1 := HN.out.1
  have e2 := HN.out.2
  exact ⟨a, _, c, srtI ss, rfl, rfl, hids, by omega, by omega, by omega, hown, HM.out.2.2.trans (hb4.mono HM.out.2.2.size)⟩

end Go.Proofs.Ytnngbeoeocbofaa
