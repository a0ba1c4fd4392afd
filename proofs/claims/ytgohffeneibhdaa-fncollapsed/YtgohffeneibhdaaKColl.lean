/-
  What is collapsed: each lies in one of them, no two overlap, and they collapse no more. Plain mathematics.
-/
import Derived.Test.YtgohffeneibhdaaKJoin
import Derived.Test.YtgohffeneibhdaaVColI
namespace Go.Proofs.Ytgohffeneibhdaa
open Go.RowKit

/-- Where a span ends, as a key. -/
def keyE (x : Sp) : Nat := keyP x + 2 ^ x.n
def Apt (J : List Sp) : Prop := J.Pairwise (fun s t => keyE t ≤ keyP s)
def Nos : List Sp → Prop
  | s :: t :: J => contB (t :: J) s = false ∧ Nos (t :: J)
  | _ => True
theorem keyE_lt (x : Sp) : keyP x < keyE x := by unfold keyE; have : 0 < 2 ^ x.n := Nat.pow_pos (by omega); omega
theorem Apt.ris {J : List Sp} (hk : ∀ t ∈ J, t.ok) (h : Apt J) : Ris J := ⟨hk, h.imp (fun {s t} hst => by have := keyE_lt t; omega)⟩
theorem apart_no {s t : Sp} (hs : s.ok) (ht : t.ok) (h : keyE t ≤ keyP s) : wB s t = false ∧ wB t s = false := by
  have h1 := keyE_lt t
  have hs0 : 0 < 2 ^ t.n := Nat.pow_pos (by omega)
  constructor
  · rw [Bool.eq_false_iff]
    intro hw
    obtain ⟨_, a2, a3, a4⟩ := (wB_num ht).1 hw
    unfold keyE at h
    rw [key_eq, key_eq, a2] at h
    omega
  · rw [Bool.eq_false_iff]
    intro hw
    obtain ⟨_, a2, a3, a4⟩ := (wB_num hs).1 hw
    unfold keyE at h
    rw [key_eq, key_eq, a2] at h
    omega
theorem cont_iff {t s : Sp} {J : List Sp} : contB (t :: J) s = true ↔ s.n < wd s.s ∧ t = sibS s := by
  unfold contB
  simp only [Bool.and_eq_true, decide_eq_true_eq, eqS_iff]
/-- The lower half, where the other one ends ahead of s. -/
theorem sib_low {s t : Sp} (hs : s.ok) (hn : s.n < wd s.s) (ht : t = sibS s) (hk : keyE t ≤ keyP s) : keyP (abvS s) = keyP t := by
  have hA := abv_ok hs hn
  have e := sib_n s
  have hts : t.s = s.s := by rw [ht]; exact e.2
  have h0 : 0 < 2 ^ s.n := Nat.pow_pos (by omega)
  have h9 : 0 < 2 ^ t.n := Nat.pow_pos (by omega)
  rcases sib_cases hs hn with ⟨a, b⟩ | ⟨a, b⟩
  · exfalso
    have h2 : t.adr = (abvS s).adr + 2 ^ s.n := by rw [ht, b, upp_num hA rfl]
    unfold keyE at hk
    rw [key_eq, key_eq, hts] at hk
    omega
  · rw [key_eq, key_eq, hts, ht, b, low_adr]; rfl
theorem push_inv : ∀ (J : List Sp) (s : Sp), (∀ t ∈ J, t.ok) → s.ok → Apt J → Nos J → (∀ t ∈ J, keyE t ≤ keyP s) → Apt (pushJ J s) ∧ Nos (pushJ J s)
  | [], _, _, _, _, _, _ => ⟨List.pairwise_singleton _ _, trivial⟩
  | t :: J, s, hJ, hs, hA, hN, hk => by
    cases hc : contB (t :: J) s
    · rw [push_stop hc]
      exact ⟨List.pairwise_cons.2 ⟨hk, hA⟩, hc, hN⟩
    · rw [push_on hc]
      obtain ⟨h1, h2⟩ := cont_iff.1 hc
      have hkA := sib_low hs h1 h2 (hk t (List.mem_cons_self ..))
      obtain ⟨a1, a2⟩ := List.pairwise_cons.1 hA
      refine push_inv J (abvS s) (fun u hu => hJ u (List.mem_cons_of_mem _ hu)) (abv_ok hs h1) a2 ?_ (fun u hu => by rw [hkA]; exact a1 u hu)
      cases J with
      | nil => trivial
      | cons u J => exact hN.2
theorem end_le {h : Sp} (hh : h.ok) : h.adr + 2 ^ h.n ≤ 340282366920938463463374607431768211456 := by
  have he := hh.2.2
  have h1 : h.adr = h.adr >>> h.n <<< h.n := by
    have := clr_adr h.n h.H h.L
    rw [he.1, he.2] at this
    exact this
  have hl := adr_lt9 h
  have hn : h.n ≤ 128 := hh.le
  rw [Nat.shiftRight_eq_div_pow, Nat.shiftLeft_eq] at h1
  have hd : (340282366920938463463374607431768211456 : Nat) = 2 ^ (128 - h.n) * 2 ^ h.n := by
    rw [← Nat.pow_add, show 128 - h.n + h.n = 128 by omega]
  have hq : h.adr / 2 ^ h.n < 2 ^ (128 - h.n) := by
    rw [Nat.div_lt_iff_lt_mul (Nat.pow_pos (by omega)), ← hd]; exact hl
  rw [hd, h1]
  have h2 : (h.adr / 2 ^ h.n + 1) * 2 ^ h.n ≤ 2 ^ (128 - h.n) * 2 ^ h.n := Nat.mul_le_mul_right _ hq
  rw [Nat.add_mul, Nat.one_mul] at h2
  exact h2
/-- The first sorts ahead of the second. -/
def Ahd (h x : Sp) : Prop := keyP h < keyP x ∨ (keyP h = keyP x ∧ x.n ≤ h.n)
theorem ahd_apart {h x : Sp} (hh : h.ok) (hx : x.ok) (ha : Ahd h x) (hw : wB x h = false) : keyE h ≤ keyP x := by
  rcases Nat.lt_or_ge (keyP x) (keyE h) with hlt | hge
  · exfalso
    have hle : keyP h ≤ keyP x := by rcases ha with h | h <;> omega
    have hs : h.s = x.s := by
      unfold keyE at hlt
      rw [key_eq, key_eq h] at hlt
      rw [key_eq, key_eq] at hle
      have a := adr_lt9 h; have b := adr_lt9 x
      have he : h.adr + 2 ^ h.n ≤ 340282366920938463463374607431768211456 := end_le hh
      cases h1 : h.s <;> cases h2 : x.s <;> simp [h1, h2] at hlt hle ⊢ <;> omega
    have ha1 : h.adr ≤ x.adr := (key_le hs).1 hle
    have ha2 : x.adr < h.adr + 2 ^ h.n := by
      unfold keyE at hlt
      rw [key_eq, key_eq, hs] at hlt
      omega
    have hz : wB (subN x 0) h = true := (wB_num hh).2 ⟨Nat.zero_le _, hs.symm, ha1, ha2⟩
    rcases wB_nest (subN_in hx (Nat.zero_le _)) hz with h3 | h3
    · rw [hw] at h3; cases h3
    · obtain ⟨b1, b2, b3, b4⟩ := (wB_num hx).1 h3
      have he : h.adr = x.adr := by omega
      have hk : keyP h = keyP x := by rw [key_eq, key_eq, hs, he]
      have hn : x.n ≤ h.n := by rcases ha with h | h <;> omega
      have : wB x h = true := (wB_num hh).2 ⟨hn, hs.symm, ha1, ha2⟩
      rw [hw] at this; cases this
  · exact hge
theorem fold_inv : ∀ (xs J : List Sp), (∀ x ∈ xs, x.ok) → Srd xs → (∀ t ∈ J, t.ok) → Apt J → Nos J → (∀ h T, J = h :: T → ∀ x ∈ xs, Ahd h x) → Apt (xs.foldl joinP J) ∧ Nos (xs.foldl joinP J)
  | [], _, _, _, _, hA, hN, _ => ⟨hA, hN⟩
  | x :: xs, J, hx, hs, hJ, hA, hN, hh => by
    have h0 := hx x (List.mem_cons_self ..)
    obtain ⟨hsx, hs'⟩ := List.pairwise_cons.1 hs
    have hx' : ∀ y ∈ xs, y.ok := fun y hy => hx y (List.mem_cons_of_mem _ hy)
    rw [List.foldl_cons]
    cases J with
    | nil =>
      refine fold_inv xs [x] hx' hs' (fun t ht => by rw [List.mem_singleton.1 ht]; exact h0) (List.pairwise_singleton _ _) trivial (fun h T e y hy => ?_)
      simp at e
      rw [← e.1]
      exact hsx y hy
    | cons h T =>
      have hhk := hJ h (List.mem_cons_self ..)
      cases hw : wB x h
      · have e1 : joinP (h :: T) x = pushJ (h :: T) x := by unfold joinP; simp only; rw [if_neg (by rw [hw]; simp)]
        rw [e1]
        have hap := ahd_apart hhk h0 (hh h T rfl x (List.mem_cons_self ..)) hw
        have hall : ∀ t ∈ h :: T, keyE t ≤ keyP x := fun t ht => by
          rcases List.mem_cons.1 ht with rfl | ht
          · exact hap
          · have h1 := (List.pairwise_cons.1 hA).1 t ht
            have h2 := keyE_lt h
            omega
        obtain ⟨p1, p2⟩ := push_inv (h :: T) x hJ h0 hA hN hall
        obtain ⟨h', T', q1, q2, q3, q4, q5, q6⟩ := push_end (h :: T) x (hA.ris hJ) h0 (fun t ht => by have := hall t ht; have := keyE_lt t; omega)
        refine fold_inv xs _ hx' hs' (push_okl (h :: T) x hJ h0).1 p1 p2 (fun g G e y hy => ?_)
        rw [q1] at e
        simp at e
        rw [← e.1]
        have hk : keyP h' ≤ keyP x := (key_le q3).2 q4
        have := hsx y hy
        unfold Ahd
        omega
      · have e1 : joinP (h :: T) x = h :: T := by unfold joinP; simp only; rw [if_pos hw]
        rw [e1]
        exact fold_inv xs _ hx' hs' hJ hA hN (fun g G e y hy => hh g G e y (List.mem_cons_of_mem _ hy))
theorem push_cov : ∀ (J : List Sp) (s : Sp), (∀ t ∈ J, t.ok) → s.ok → ∀ u ∈ s :: J, ∃ t ∈ pushJ J s, wB u t = true
  | [], s, _, hs, u, hu => ⟨s, List.mem_singleton.2 rfl, by rw [List.mem_singleton.1 hu]; exact wB_self hs⟩
  | t :: J, s, hJ, hs, u, hu => by
    cases hc : contB (t :: J) s
    · rw [push_stop hc]
      refine ⟨u, hu, wB_self ?_⟩
      rcases List.mem_cons.1 hu with h | h
      · exact h ▸ hs
      · exact hJ u h
    · rw [push_on hc]
      obtain ⟨h1, h2⟩ := cont_iff.1 hc
      have hJ' : ∀ v ∈ J, v.ok := fun v hv => hJ v (List.mem_cons_of_mem _ hv)
      have IH := push_cov J (abvS s) hJ' (abv_ok hs h1)
      obtain ⟨a, ha, hwa⟩ := IH (abvS s) (List.mem_cons_self ..)
      rcases List.mem_cons.1 hu with h | h
      · exact ⟨a, ha, wB_trans (h ▸ abv_in) hwa⟩
      · rcases List.mem_cons.1 h with h | h
        · have hin : wB u (abvS s) = true := by
            have : abvS u = abvS s := by rw [h, h2]; exact sib_abv hs h1
            rw [← this]; exact abv_in
          exact ⟨a, ha, wB_trans hin hwa⟩
        · exact IH u (List.mem_cons_of_mem _ h)
theorem fold_cov : ∀ (xs J : List Sp), (∀ x ∈ xs, x.ok) → (∀ t ∈ J, t.ok) → ∀ u, (u ∈ xs ∨ ∃ t ∈ J, wB u t = true) → ∃ t ∈ xs.foldl joinP J, wB u t = true
  | [], _, _, _, _, h => h.elim (fun h => by cases h) id
  | x :: xs, J, hx, hJ, u, hu => by
    have h0 := hx x (List.mem_cons_self ..)
    rw [List.foldl_cons]
    have hj := join_okl J x hJ h0
    refine fold_cov xs _ (fun y hy => hx y (List.mem_cons_of_mem _ hy)) hj.1 u ?_
    have key : ∀ v, v ∈ x :: J → ∃ t ∈ joinP J x, wB v t = true := by
      intro v hv
      cases J with
      | nil => exact push_cov [] x hJ h0 v hv
      | cons h T =>
        unfold joinP
        simp only
        split
        · rename_i hw
          rcases List.mem_cons.1 hv with e | e
          · exact ⟨h, List.mem_cons_self .., e ▸ hw⟩
          · exact ⟨v, e, wB_self (hJ v e)⟩
        · exact push_cov (h :: T) x hJ h0 v hv
    rcases hu with hu | ⟨t, ht, hw⟩
    · rcases List.mem_cons.1 hu with e | e
      · exact Or.inr (e ▸ key x (List.mem_cons_self ..))
      · exact Or.inl e
    · obtain ⟨b, hb, hwb⟩ := key t (List.mem_cons_of_mem _ ht)
      exact Or.inr ⟨b, hb, wB_trans hw hwb⟩
theorem fold_idem : ∀ J : List Sp, (∀ t ∈ J, t.ok) → Apt J → Nos J → J.reverse.foldl joinP [] = J
  | [], _, _, _ => rfl
  | s :: J, hJ, hA, hN => by
    have hs := hJ s (List.mem_cons_self ..)
    have hJ' : ∀ v ∈ J, v.ok := fun v hv => hJ v (List.mem_cons_of_mem _ hv)
    obtain ⟨a1, a2⟩ := List.pairwise_cons.1 hA
    have hN' : Nos J := by
      cases J with
      | nil => trivial
      | cons t J => exact hN.2
    rw [List.reverse_cons, List.foldl_append, fold_idem J hJ' a2 hN', List.foldl_cons, List.foldl_nil]
    cases J with
    | nil => rfl
    | cons t J =>
      unfold joinP
      simp only
      rw [if_neg (by rw [(apart_no hs (hJ' t (List.mem_cons_self ..)) (a1 t (List.mem_cons_self ..))).1]; simp)]
      exact push_stop hN.1
/-- All that the law asks. -/
theorem coll_all (xs ys : List Sp) (hx : ∀ x ∈ xs, x.ok) (hp : ys.Perm xs) (hs : Srd ys) :
    (∀ t ∈ collP ys, t.ok) ∧ (collP ys).Pairwise (fun t s => keyE t ≤ keyP s) ∧ (∀ x ∈ xs, ∃ t ∈ collP ys, wB x t = true) ∧ Srd (collP ys) ∧ collP (collP ys) = collP ys := by
  have hy : ∀ y ∈ ys, y.ok := fun y hym => hx y (hp.mem_iff.1 hym)
  obtain ⟨hA, hN⟩ := fold_inv ys [] hy hs (fun _ h => by cases h) List.Pairwise.nil trivial (fun _ _ h => by cases h)
  have hok := (fold_okl ys hy ys.length).1
  rw [List.take_length] at hok
  have hAp : (collP ys).Pairwise (fun t s => keyE t ≤ keyP s) := List.pairwise_reverse.2 hA
  refine ⟨fun t ht => hok t (List.mem_reverse.1 ht), hAp, fun x hxm => ?_, hAp.imp (fun {t s} h => Or.inl (by have := keyE_lt t; omega)), ?_⟩
  · obtain ⟨t, ht, hw⟩ := fold_cov ys [] hy (fun _ h => by cases h) x (Or.inl (hp.mem_iff.2 hxm))
    exact ⟨t, List.mem_reverse.2 ht, hw⟩
  · have h1 := fold_idem _ hok hA hN
    show (List.foldl joinP [] (collP ys)).reverse = collP ys
    have h2 : List.foldl joinP [] (collP ys) = ys.foldl joinP [] := h1
    rw [h2]; rfl

end Go.Proofs.Ytgohffeneibhdaa
